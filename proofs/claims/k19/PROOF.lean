import PyProof.Rows.All
import Wide.All
import OpenK.AllK
import Wide.FinOn
import Lean
import PyProof.EqAt
import PyProof.EqKinds
import PyProof.TupleCall
import KE.KUnpack
import KE.KSortTup
import PySem.Challenge.RW_ballrockers_k19_after
set_option linter.all false
set_option genSizeOf false
set_option bootstrap.genMatcherCode false
set_option compiler.extract_closed false
set_option maxRecDepth 100000
set_option maxHeartbeats 0 in
theorem RF.pa19:PySem.Challenge.rw_ballrockers_k19_after.wellSaid=true:=by kernel_rfl
def fE:=@decide_eq_false
def gH:=@decide_eq_true_eq
def gg:=@decide_eq_true
def jP:=@of_decide_eq_true
def b9:=@if_true
def dF:=@if_false
def ku:=@congrArg
def ny:=@or_false
open PySem renaming wpAny_bind->aJ,wpAny_pure->bg,wpAny_callSpecial?_slot->pQ,wpAny_newObj_type->k9,wpAny_call_entry->kG,wpAny_field->jf,wpAny_truthy_bool->pR,sizeLine_eq->lg,wpAny_holding->nA,wpAny_seqItems->pS,wpAny_specialOf->vcs,wpAny_pyIter_tuple->uY,wpAny_isInstance->uZ,wpAny_setField_rec->xG,wpAny_passesOwn->u5,wpAny_pyIter_list->xH,mem_of_lookup->zc,wpAny_mono->nB,wpAny_setField->u6,wpAny_of_eq->qo,builtinLookup_eq_fast->Dl,wpAny_Call_Name_kw->Dm,wpAny_attempt->xJ,wpAny_eqBool_int->Dp,wpAny_forIn_list->Dq,wpAny_rule->u7,typeLookup_type->Dr,isSubtype_type->Ds,wpAny_standAt->Dt,wpAny_onRaise->Du,wpAny_typeOf->Dv,callType_new->Dw,seqIndex_of->Dy,wpAny_letGo->Dz
open List renaming length_map->bF,mem_cons_of_mem->eU,length_cons->dG,mem_cons_self->eX,size_toArray->eY,getElem?_eq_getElem->iA,getElem?_cons_succ->ir,length_append->fS,map_cons->dz,getElem?_cons_zero->jg,getElem?_eq_some_iff->jK,set_cons_zero->gQ,mem_cons->eV,getD_eq_getElem?_getD->kH,getElem?_append_right->kI,set_cons_succ->iB,getElem?_map->iC,mem_singleton->i7,length_singleton->kJ,getElem?_eq_none_iff->ng,lookup_cons->jx,getElem?_append_left->nC,mem_append_right->l8,mem_of_getElem?->l9,find?_cons->kB,all_eq_true->lq,mem_map->jh,getElem?_eq_none->qp,drop_eq_getElem_cons->u9,replicate_succ->qq,mem_append->nh,map_append->ni,cons_append->nD,getElem_mem->nF,not_mem_nil->nG,zip_cons_cons->qt,drop_eq_nil_of_le->vc,all_cons->mh,append_nil->pT,getElem?_set_self->xK,length_nil->qw,nil_append->qx,getElem?_replicate->zd,map_nil->nH,append_assoc->vd,nodup_append->ve,filterMap_cons->xM,nodup_cons->tu,map_congr_left->xN,length_replicate->ze,mem_range->tw,drop_zero->tB,getLast?_eq_getElem?->DA,mem_append_left->zf,getElem?_set_ne->zg,mem_filter->vf,flatten_cons->xO,map_map->qy,forIn_nil->vg,forIn_cons->xP,getElem?_toArray->DB,getElem?_reverse->DC,set_append_right->DF,nodup_nil->xQ,length_reverse->DG,getElem?_range->DH,length_set->zh,any_cons->xR,mem_replicate->DI,reverse_nil->DJ,map_take->zj
open PySem renaming Value->aa,Shared->af,Addr->ah,Program->ai,World->aj,Around->ak,Expr->ao,Stmt->aq,FuncData->au,OsState->av,Scope->ay,Heap->az,PyData->aA
open Option renaming some->aB,none->aC
open PySem.W renaming Frag->aO
open PySem.Str renaming ofString->bH
open List renaming replicate->bf
open Bool renaming and_eq_true->bM,false_eq_true->eW,false_ne_true->nJ,not_true->nK,or_eq_true->xS,false_and->xT,and_self->xU,not_false->zk,true_or->zl,and_false->DL
open Nat renaming le_refl->bq,lt_of_lt_of_le->dS,ne_of_lt->fB,le_of_ble_eq_true->lu,lt_succ_self->jL,zero_le->gX,le_trans->iY,lt_of_le_of_lt->pU,not_lt->jM,lt_irrefl->nj,ne_of_gt->mj,lt_succ_of_lt->tD,le_succ->ly,add_assoc->qz,eq_of_beq_eq_true->zm,min_eq_left->vh,add_le_add_left->zo,le_add_right->xV,le_of_lt->tE,zero_add->vec,ble_eq->qA,mod_lt->tF,le_succ_of_le->DM,mod_eq_of_lt->DO
open PySem.Heap renaming get?_push_of_some->dH,get?_push_size->gh,lt_size->cP,size_push->qH,get?_update_self->zp
open Option renaming map_some->dO,join_some->i6
open Int renaming eq_ofNat_of_zero_le->kC,toNat_natCast->qI,emod_lt_of_pos->DP,le_trans->xW,le_refl->xX,emod_nonneg->DQ,ofNat_le->DR,zero_add->DS,mul_add->DU
open Option.some renaming inj->jN,injEq->vj
open PyProof.Rows renaming slot_tuple_getitem->xY,callWith_type1->zq,mirror_perm->xZ
open PySem.W renaming kia_one->mq
open PySem.Heap.SameBut renaming update->tG
open PySem.W.Fast renaming te14364793385576792824->DV
open Ne renaming symm->gf
open PySem.Obj renaming data_mapFields->tH,isFreed_of_fields->DW
open PySem.F renaming slot_tuple_iterator_next->DZ,slot_NoneType_hash->Ea,slot_tuple_hash->Eb,slot_zip_next->Ec,slot_tuple_eq->Ed
open List.Pairwise renaming filter->zu
open Array renaming length_toList->zw
open PySem.SeqAt renaming canLay_of_shaped->Ef
open PySem.Paired renaming length->vm
open Array.Perm renaming refl->zx
open List.cons renaming injEq->Eg
open List.Perm renaming refl->Eh
open LawfulMonad renaming pure_bind->ya
namespace RF
noncomputable def seg(f:Nat->Int):Nat->Nat->List Int|_,0=>[]|a,n+1=>f a::seg f (a+1) n
theorem kD(f:Nat->Int):∀(n a:Nat),(seg f a n).length=n|0,_=>rfl|n+1,a=>by rw[seg,dG,kD f n]
theorem Ei(f:Nat->Int):∀(m n a:Nat),seg f a (m+n)=seg f a m++seg f (a+m) n
 |0,n,a=>by rw[vec];rfl
 |m+1,n,a=>by
  rw[show m+1+n=(m+n)+1 by lia,seg,seg,nD,Ei f m n (a+1),show a+1+m=a+ (m+1) by lia]
theorem GD(f:Nat->Int):∀(n a j:Nat),j<n->(seg f a n)[j]?=aB (f (a+j))
 |0,_,_,h=>by lia
 |n+1,a,0,_=>rfl
 |n+1,a,j+1,h=>by
  rw[seg,ir,GD f n (a+1) j (by lia),show a+1+j=a+ (j+1) by lia]
theorem LH(f:Nat->Int)(a n:Nat):seg f a (n+1)=seg f a n++[f (a+n)]:=Ei f n 1 a
theorem Ej(f:Nat->Int){a m n:Nat}(h:m<=n):(seg f a n).take m=seg f a m:=by obtain⟨k,rfl⟩:=Nat.le.dest h;rw[Ei,List.take_left' (kD f m a)]
theorem LI(f:Nat->Int){a m n:Nat}(h:m<=n):(seg f a n).drop m=seg f (a+m) (n-m):=by obtain⟨k,rfl⟩:=Nat.le.dest h;rw[Ei,List.drop_left' (kD f m a),show m+k-m=k by lia]
noncomputable def GF(g:Nat->Int)(s:Nat):Prop:=∀j,g (j+s)=g j
end RF
set_option Elab.async false
set_option maxHeartbeats 4000000
namespace RF
noncomputable def cnt(f:Nat->Int)(x:Int):Nat->Int|0=>0|n+1=>cnt f x n+if f n=x then 1 else 0
noncomputable def jy(f tm:Nat->Int)(x:Int):Nat->Int|0=>0|n+1=>jy f tm x n+if f n=x then tm n else 0
theorem yb{f f':Nat->Int}{x:Int}:∀n,(∀k,k<n->f k=f' k)->cnt f x n=cnt f' x n|0,_=>rfl|n+1,h=>by rw[cnt,cnt,yb n λk hk=>h k (by lia),h n (by lia)]
theorem LJ{f:Nat->Int}{x:Int}{N:Nat}(hp:GF f N):∀k,cnt f x (N+k)=cnt f x N+cnt f x k
 |0=>by simp[cnt]
 |k+1=>by
  rw[<-qz,cnt,LJ hp k,cnt,Nat.add_comm N k,hp k];lia
theorem LK{f:Nat->Int}{x:Int}{N:Nat}(hp:GF f N)(k:Nat):∀r:Nat,cnt f x (N*r+k)=(r:Int)*cnt f x N+cnt f x k
 |0=>by simp
 |r+1=>by
  rw[show N* (r+1)+k=N+ (N*r+k) by rw[Nat.mul_add];lia,LJ hp,LK hp k r,Int.natCast_add,Int.add_mul];lia
noncomputable def ji(m:Nat)(back:Option Nat)(n:Nat):List Int×Nat:=match back with
 |none=>(bf (min n (m-1)) 1++bf (m-min n (m-1)) 0,min n (m-1))
 |some b=>if n<m then(bf (min n (m-1)) 1++bf (m-min n (m-1)) 0,min n (m-1))
  else(bf b 1++bf ((n-b) % (m-b)) (((n-b)/ (m-b):Nat)+1:Int)++bf (m-b- (n-b) % (m-b)) (((n-b)/ (m-b):Nat):Int),b+ (n-b) % (m-b))
noncomputable def cs(f:Nat->Int)(x:Int)(a n:Nat):Int:=cnt (λj=>f (a+j)) x n
theorem GG{f:Nat->Int}{x:Int}{a:Nat}:∀b,cnt f x (a+b)=cnt f x a+cs f x a b
 |0=>by simp[cs,cnt]
 |b+1=>by
  have h:=GG (f:=f) (x:=x) (a:=a) b;rw[<-qz,cnt,h];unfold cs;rw[cnt,Int.add_assoc]
theorem Rm{f:Nat->Int}{x:Int}{a b c:Nat}:cs f x a (b+c)=cs f x a b+cs f x (a+b) c:=by unfold cs;rw[GG];unfold cs;simp only[qz]
theorem Ek{f t:Nat->Int}{x:Int}{a:Nat}:∀b,jy f t x (a+b)=jy f t x a+jy (λj=>f (a+j)) (λj=>t (a+j)) x b
 |0=>by simp[jy]
 |b+1=>by
  have h:=Ek (f:=f) (t:=t) (x:=x) (a:=a) b;rw[<-qz,jy,h,jy,Int.add_assoc]
theorem yc{f t:Nat->Int}{x c:Int}:∀n,(∀j,j<n->t j=c)->jy f t x n=c*cnt f x n
 |0,_=>by simp[jy,cnt]
 |n+1,h=>by
  rw[jy,yc n λj hj=>h j (by lia),cnt,DU,h n (by lia)];split<;>lia
noncomputable def cj(m:Nat)(bk:Option Nat)(n:Nat):Nat:=match bk with|none=>min n (m-1)|some i=>if n<m then n else i+ (n-i) % (m-i)
noncomputable def bP(m:Nat)(bk:Option Nat)(n:Nat):Nat:=match bk with|none=>min n (m-1)|some _=>n
noncomputable def tot(m:Nat)(bk:Option Nat)(nf:Nat->Int)(n:Nat)(x:Int):Int:=match bk with|none=>cnt nf x (min n (m-1))|some i=>if n<m then cnt nf x n else cnt nf x i+ (((n-i)/ (m-i):Nat):Int)*cs nf x i (m-i)+cs nf x i ((n-i) % (m-i))
theorem LL{nf:Nat->Int}{x:Int}{m M:Nat}(h:M<=m):jy nf (λj=>(bf M (1:Int)++bf (m-M) 0).getD j 0) x m=cnt nf x M:=by
 have e:m=M+ (m-M):=by lia
 rw[e,Ek,<-e,yc (c:=1) M λj hj=>by
  rw[kH,nC (by simpa using hj)];simp[hj],yc (c:=0) (m-M) λj hj=>by
  rw[kH,kI (by simp)];simp[hj]]
 lia
theorem Rn{nf:Nat->Int}{x:Int}{m n:Nat}{bk:Option Nat}(hb:∀b,bk=aB b->b<m):jy nf (λj=>(ji m bk n).1.getD j 0) x m=tot m bk nf n x:=by
 cases bk with
 |none=>
  unfold ji tot;exact LL (by lia)
 |some i=>
  have hi:=hb i rfl;unfold ji tot;by_cases z:n<m;simp only[if_pos z];rw[LL (by lia),vh (by lia)];simp only[if_neg z];have hr:=tF (n-i) (show 0<m-i by lia);generalize (n-i)/ (m-i)=q at *;generalize (n-i) % (m-i)=r at *;have e:m=i+ (r+ (m-i-r)):=by lia
  have e2:jy nf (λj=>(bf i (1:Int)++bf r ((q:Int)+1)++bf (m-i-r) (q:Int)).getD j 0) x m=jy nf (λj=>(bf i (1:Int)++bf r ((q:Int)+1)++bf (m-i-r) (q:Int)).getD j 0) x (i+ (r+ (m-i-r))):=by rw[<-e]
  rw[e2,Ek,Ek];rw[yc (c:=1) i λj hj=>by
   rw[kH,vd,nC (by simpa using hj)];simp[hj]]
  rw[yc (c:=(q:Int)+1) r λj hj=>by
   rw[kH,vd,kI (by simp),nC (by simp;lia)];simp[hj]]
  rw[yc (c:=(q:Int)) (m-i-r) λj hj=>by
   rw[kH,kI (by simp)];simp;rw[zd,if_pos (by lia)];rfl]
  have h3:=Rm (f:=nf) (x:=x) (a:=i) (b:=r) (c:=m-i-r);rw[show r+ (m-i-r)=m-i by lia]at h3;unfold cs at h3 ⊢;rw[show(λj=>nf (i+ (r+j)))=λj=>nf (i+r+j)from funext λj=>by rw[qz]];rw[h3,DU,Int.add_mul];lia
theorem yd{c:Int}:∀n:Nat,(bf n c).sum=n*c
 |0=>by simp
 |n+1=>by
  rw[qq,List.sum_cons,yd n]
  push_cast;rw[Int.add_mul];lia
theorem Ro{m n:Nat}{bk:Option Nat}(hb:∀b,bk=aB b->b<m):(ji m bk n).1.sum=(bP m bk n:Int):=by
 have two:∀M:Nat,M<=m->(bf M (1:Int)++bf (m-M) 0).sum=(M:Int):=λM _=>by
  rw[List.sum_append,yd,yd];lia
 cases bk with
 |none=>exact two _ (by lia)
 |some i=>
  have hi:=hb i rfl;unfold ji bP;by_cases z:n<m;simp only[if_pos z];rw[two _ (by lia),vh (by lia)];simp only[if_neg z];have hr:=tF (n-i) (show 0<m-i by lia);have hd:=Nat.div_add_mod (n-i) (m-i);generalize (n-i)/ (m-i)=q at *;generalize (n-i) % (m-i)=r at *;rw[List.sum_append,List.sum_append,yd,yd,yd];have h1:((m-i-r:Nat):Int)=(m:Int)-i-r:=by lia
  have h2:((m-i:Nat):Int)* (q:Int)+r=(n:Int)-i:=by
   have:(((m-i)*q+r:Nat):Int)=((n-i:Nat):Int):=by rw[hd]
   push_cast at this;lia
  rw[h1];have h3:((m-i:Nat):Int)=(m:Int)-i:=by lia
  rw[h3]at h2;rw[DU,Int.sub_mul];lia
theorem Rq{m n:Nat}{bk:Option Nat}(hm:1<=m):(ji m bk n).2=cj m bk n:=by
 cases bk with
 |none=>rfl
 |some i=>
  unfold ji cj;by_cases z:n<m;simp only[if_pos z];lia;simp only[if_neg z]
theorem Rr{m n:Nat}{bk:Option Nat}(hm:1<=m)(hb:∀b,bk=aB b->b<m):cj m bk n<m:=by
 cases bk with
 |none=>unfold cj;dsimp only;lia
 |some i=>
  have hi:=hb i rfl;have hr:=tF (n-i) (show 0<m-i by lia);unfold cj;dsimp only;split<;>lia
theorem Rt{nf:Nat->Int}{x:Int}{m n:Nat}{bk:Option Nat}(hb:∀b,bk=aB b->b<m):cnt (λj=>nf (cj m bk j)) x (bP m bk n)=tot m bk nf n x:=by
 cases bk with
 |none=>
  unfold bP tot;exact yb _ λk hk=>by unfold cj;dsimp only;rw[vh (by lia)]
 |some i=>
  have hi:=hb i rfl;unfold bP tot;by_cases z:n<m;simp only[if_pos z];exact yb _ λk hk=>by unfold cj;dsimp only;rw[if_pos (by lia)]
  simp only[if_neg z];have hd:=Nat.div_add_mod (n-i) (m-i);have R0:0<m-i:=by lia
  have hr:=tF (n-i) R0;generalize (n-i)/ (m-i)=q at *;generalize (n-i) % (m-i)=r at *;have e:n=i+ ((m-i)*q+r):=by lia
  rw[e,GG,yb i (f':=nf) λk hk=>by unfold cj;dsimp only;rw[if_pos (by lia)]];have hj:∀j,cj m (aB i) (i+j)=i+j % (m-i):=λj=>by
   unfold cj;dsimp only;by_cases y:i+j<m;rw[if_pos y,DO (by lia)];rw[if_neg y,show i+j-i=j by lia]
  have hp:GF (λj=>nf (cj m (aB i) (i+j))) (m-i):=λj=>by
   dsimp only;rw[hj,hj,Nat.add_mod_right]
  unfold cs;rw[LK hp];have small:∀k,k<=m-i->cnt (λj=>nf (cj m (aB i) (i+j))) x k=cnt (λj=>nf (i+j)) x k:=λk hk=>yb k λj hjk=>by
   rw[hj,DO (by lia)]
  rw[small _ (bq _),small _ (tE hr)];lia
end RF
namespace L2
theorem aR(h:True:=by rfl):True:=h
theorem aD(h:True:=by decide):True:=h
theorem aF(h:True:=by first|exact .inl rfl|exact .inr rfl|assumption):True:=h
end L2
namespace L2
open PySem PySem.Spec PyProof.Rows
noncomputable abbrev Key:=Sum Int (Option Str)
noncomputable def jj:Key->aa->Bool|.inl k,v=>Value.isInt k v|.inr (aB x),v=>Value.isStrOf x v|.inr aC,.none=>true|.inr aC,_=>false
noncomputable def GH(w:aj):Key->Int|.inl k=>hashInt k|.inr (aB x)=>hashStr w x|.inr aC=>0xFCA86420
theorem nk:∀{k:Key} {v:aa},jj k v=true->(∃i t,k=Sum.inl i/\v=Value.int i t)\/(∃x t,k=Sum.inr (aB x)/\v=Value.str x t)\/(k=Sum.inr aC/\v=.none)
 |.inl i,v,h=>by
  obtain⟨t,e⟩:=Value.isInt_shape (k:=i) (v:=v) h;exact .inl ⟨i,t,rfl,e⟩
 |.inr (aB x),v,h=>by
  obtain⟨t,e⟩:=Value.isStrOf_shape (x:=x) (v:=v) h;exact .inr (.inl ⟨x,t,rfl,e⟩)
 |.inr aC,v,h=>by cases v<;>first|exact .inr (.inr ⟨rfl,rfl⟩)|cases h
theorem Ru(i:Int)(t:Tok):jj (.inl i) (.int i t)=true:=by simp[jj,Value.isInt]
theorem Rv(x:Str)(t:Tok):jj (.inr (aB x)) (.str x t)=true:=by simp[jj,Value.isStrOf]
theorem Rw(a b:Int):decide ((Sum.inl a:Key)=Sum.inl b)=(a==b):=by by_cases e:a=b;subst e;simp;have h:¬(Sum.inl a:Key)=Sum.inl b:=λq=>e (Sum.inl.inj q);rw[fE h];exact(beq_eq_false_iff_ne.mpr e).symm
theorem Rx(a b:Str):decide ((Sum.inr (aB a):Key)=Sum.inr (aB b))=decide (a=b):=by by_cases e:a=b;subst e;simp;have h:¬(Sum.inr (aB a):Key)=Sum.inr (aB b):=λq=>e (jN (Sum.inr.inj q));rw[fE h,fE e]
theorem LM(a:Int)(b:Option Str):decide ((Sum.inl a:Key)=Sum.inr b)=false:=fE (λq=>nomatch q)
theorem LN(a:Option Str)(b:Int):decide ((Sum.inr a:Key)=Sum.inl b)=false:=fE (λq=>nomatch q)
theorem Ry(a:Str):decide ((Sum.inr (aB a):Key)=Sum.inr aC)=false:=fE (λq=>nomatch q)
theorem Rz(a:Str):decide ((Sum.inr aC:Key)=Sum.inr (aB a))=false:=fE (λq=>nomatch q)
theorem LO{prog:ai}{w:aj}{A:ak}{E:aa->af->Prop}{s:af}{Q:Int->af->Prop}(h:Q 0xFCA86420 {s with toks:=s.toks+1}):wpAny (model prog w) A (PySem.pyHash .none) Q E s:=by
 have hT:s.TypeIs .none "NoneType":=rfl;unfold pyHash;refine aJ (wpAny_cRoomFor_or (.inl rfl) ?_);refine aJ (vcs hT Ea.lookup ?_);show wpAny _ _ (if(aB (Value.builtin "NoneType.__hash__")==aB Value.none)=true then _ else _) Q E s;rw[if_neg (by rw[beq_builtin_none];exact nJ)];refine aJ (vcs hT Ea.lookup ?_);show wpAny _ _ (callSpecialIfBoundUnlessNone? .none "__hash__" _ >>= _) Q E s;refine aJ (wpAny_callSpecialIfBoundUnlessNone?_slot hT Ea
  (kG Ea hT F.entry_NoneType_hash
    (show wpAny _ _ (do ret (<-mkInt 0xFCA86420)) _ _ s from wpAny_ret_mkInt ?_) (F.args_NoneType_hash_1 _)))
 show wpAny _ _ (if(decide (-(2:Int) ^ 63<=0xFCA86420)&&decide ((0xFCA86420:Int)<2 ^ 63))=true then _ else _) Q E _;rw[if_pos (by decide)];exact bg h
noncomputable def iD(prog:ai)(w:aj):PySem.KeyKind prog w Key where
 is:=jj
 hash:=GH w
 inj:=λv a b ha hb=>by
  rcases nk ha with⟨i,t,rfl,rfl⟩|⟨x,t,rfl,rfl⟩|⟨rfl,rfl⟩
  .rcases nk hb with⟨j,u,rfl,e⟩|⟨y,u,rfl,e⟩|⟨rfl,e⟩
   .injection e with e1 _;rw[e1]
   .exact nomatch e
   .exact nomatch e
  .rcases nk hb with⟨j,u,rfl,e⟩|⟨y,u,rfl,e⟩|⟨rfl,e⟩
   .exact nomatch e
   .injection e with e1 _;rw[e1]
   .exact nomatch e
  .rcases nk hb with⟨j,u,rfl,e⟩|⟨y,u,rfl,e⟩|⟨rfl,e⟩
   .exact nomatch e
   .exact nomatch e
   .rfl
 byValue:=λk v h=>by
  rcases nk h with⟨i,t,rfl,rfl⟩|⟨x,t,rfl,rfl⟩|⟨rfl,rfl⟩<;>rfl
 pyHash:=λhv h=>by
  rcases nk hv with⟨i,t,rfl,rfl⟩|⟨x,t,rfl,rfl⟩|⟨rfl,rfl⟩
  .exact wpAny_pyHash_int h
  .exact wpAny_pyHash_str h
  .exact LO h
 eqBool:=λ{A E s a b u v Q} hu hv h=>by
  rcases nk hu with⟨i,t,rfl,rfl⟩|⟨x,t,rfl,rfl⟩|⟨rfl,rfl⟩
  .rcases nk hv with⟨j,u,rfl,rfl⟩|⟨y,u,rfl,rfl⟩|⟨rfl,rfl⟩
   .rw[Rw]at h;exact Dp h
   .rw[LM]at h;exact SeqAt.EqAt.int_str i t y u _ _ _ _ h
   .rw[LM]at h;exact SeqAt.EqAt.int_none (A:=A) (s:=s) i t prog w E Q h
  .rcases nk hv with⟨j,u,rfl,rfl⟩|⟨y,u,rfl,rfl⟩|⟨rfl,rfl⟩
   .rw[LN]at h;exact SeqAt.EqAt.str_int x t j u _ _ _ _ h
   .rw[Rx]at h;exact wpAny_eqBool_str h
   .rw[Ry]at h;exact SeqAt.EqAt.str_none (A:=A) (s:=s) x t prog w E Q h
  .rcases nk hv with⟨j,u,rfl,rfl⟩|⟨y,u,rfl,rfl⟩|⟨rfl,rfl⟩
   .rw[LN]at h;exact SeqAt.EqAt.none_int (A:=A) (s:=s) j u prog w E Q h
   .rw[Rz]at h;exact SeqAt.EqAt.none_str (A:=A) (s:=s) y u prog w E Q h
   .exact SeqAt.EqAt.same (A:=A) (s:=s) .none prog w E Q (by simpa using h)
 «strs»:=λk x t v h=>by
  rcases nk h with⟨i,u,rfl,e⟩|⟨y,u,rfl,e⟩|⟨rfl,e⟩
  .exact nomatch e
  .injection e with e1 _
   subst e1
   cases v<;>rfl
  .exact nomatch e
theorem RA(prog:ai)(w:aj)(i:Int)(t:Tok):(iD prog w).is (.inl i) (.int i t)=true:=Ru i t
theorem RB(prog:ai)(w:aj)(x:Str)(t:Tok):(iD prog w).is (.inr (aB x)) (.str x t)=true:=Rv x t
inductive V where
 |aI|bl (b:Bool)|int (i:Int)|str (x:Str)|zy (b:Array UInt8)|ye (b:UInt64)|ref (a:ah)|ty (n:String)
 deriving DecidableEq
noncomputable def RelV:V->aa->Prop|.aI,u=>u=Value.none|.bl b,u=>u=Value.bool b|.int i,u=>∃t,u=Value.int i t|.str x,u=>∃t,u=Value.str x t|.zy b,u=>∃t,u=Value.bytes b t|.ye b,u=>∃t,u=Value.float b t|.ref a,u=>u=Value.ref a|.ty n,u=>u=Value.type n
noncomputable abbrev Vals:List V->List aa->Prop:=Paired RelV
theorem Vals.length{xs:List V}{us:List aa}(r:Vals xs us):xs.length=us.length:=vm r
theorem Vals.get:∀{xs:List V} {us:List aa} {i:Nat} {x:V},Vals xs us->xs[i]?=aB x->∃u,us[i]?=aB u/\RelV x u
 |_,_,_,_,.nil,e=>by simp at e
 |_,_,0,_,.cons r _,e=>by simp at e;subst e;exact⟨_,rfl,r⟩
 |_,_,i+1,x,.cons _ t,e=>by
  obtain⟨u,h1,h2⟩:=Vals.get (i:=i) (x:=x) t (by simpa using e);exact⟨u,by simpa using h1,h2⟩
theorem Vals.set{x:V}{u:aa}(r:RelV x u):∀{xs:List V} {us:List aa} (i:Nat),Vals xs us->Vals (xs.set i x) (us.set i u)|_,_,_,.nil=>.nil|_,_,0,.cons _ t=>.cons r t|_,_,i+1,.cons q t=>.cons q (Vals.set r i t)
theorem Vals.append:∀{xs ys:List V} {us ws:List aa},Vals xs us->Vals ys ws->Vals (xs++ys) (us++ws)|_,_,_,_,.nil,s=>s|_,_,_,_,.cons r t,s=>.cons r (Vals.append t s)
theorem Vals.take:∀{xs:List V} {us:List aa} (n:Nat),Vals xs us->Vals (xs.take n) (us.take n)|_,_,0,_=>.nil|_,_,_+1,.nil=>.nil|_,_,n+1,.cons r t=>.cons r (Vals.take n t)
theorem Vals.drop:∀{xs:List V} {us:List aa} (n:Nat),Vals xs us->Vals (xs.drop n) (us.drop n)|_,_,0,r=>r|_,_,_+1,.nil=>.nil|_,_,n+1,.cons _ t=>Vals.drop n t
noncomputable def gJ:Option V->Option aa->Prop|some v,aB u=>RelV v u|none,aC=>True|_,_=>False
noncomputable def KV{κ:Type}:List (κ×V)->List (κ×aa)->Prop:=Paired λ(p:κ×V) (q:κ×aa)=>p.1=q.1/\RelV p.2 q.2
noncomputable def kV:Key->V|.inl i=>.int i|.inr (aB x)=>.str x|.inr aC=>.aI
inductive HO where
 /-- a list -/
 |lst (xs:List V)
 /-- a tuple (never changes) -/
 |tup (xs:List V)
 /-- a dict zz keys are ints and texts;one zz keys are tuples of ints and texts (yf empty one is both) -/
 |dK (kvs:List (Key×V))|dT (kvs:List (List Key×V))
 /-- a set of ints: its members,its size -/
 |set (S:Int->Bool) (n:Nat)
 /-- an instance of yf class at C,its dict at dx,its attributes -/
 |ins (C dx:ah) (fs:List (Str×V))
 /-- yf dict of yf instance at x -/
 |own (x:ah)
 /-- yf dict of an exception -/
 |xd (fs:List (Str×V))
 /-- a bound method,f of x -/
 |met (f x:ah)
 /-- a range object lo,lo+1,.. below hi -/
 |GI (lo hi:Int)
 /-- a thing RC is known to yf object (yf script;a dict while a loop walks it): read,never written while it is so -/
 |bN (o:Obj) (u:HO)
 /-- a code zA table -/
 |vn (ps:Array aa)
 /-- any other thing,by what is true of its one object (a def of LP own: RD a S n:=HO.ext λh=>..) -/
 |ext (φ:az->Prop)
noncomputable abbrev Hp:=ah->Option HO
noncomputable def upd(H:Hp)(a:ah)(o:HO):Hp:=λb=>if b=a then aB o else H b
theorem gi{H:Hp}{a:ah}{o:HO}:upd H a o a=aB o:=by unfold upd;rw[if_pos rfl]
theorem bQ{H:Hp}{a b:ah}{o:HO}(h:b≠a):upd H a o b=H b:=by unfold upd;rw[if_neg h]
theorem dI{H:Hp}{a b:ah}{o u:HO}(h:H a=aB o)(h':H b=aB u)(d:o≠u):a≠b:=by intro e;subst e;rw[h]at h';exact d (jN h')
theorem gj{H:Hp}{a b:ah}{o:HO}(h:H a=aB o)(h':H b=aC):a≠b:=by intro e;subst e;rw[h]at h';cases h'
noncomputable def nq(h:az)(a:ah)(items:Array aa):Prop:=∃o,h.get? a=aB o/\o.cls=.type "tuple"/\(∃n,o.data=.seq items n)/\o.dict=aC
theorem nq.tup{h:az}{a:ah}{items:Array aa}(x:nq h a items):IsTup h a items:=let⟨o,e,c,d,_⟩:=x;⟨o,e,c,d⟩
theorem nq.lt{h:az}{a:ah}{items:Array aa}(x:nq h a items):a<h.objs.size:=x.tup.lt
theorem nq.new(h:az)(items:Array aa):nq (h.push {cls:=.type "tuple",data:=.seq items}) h.objs.size items:=⟨_,gh _ rfl,rfl,⟨_,rfl⟩,rfl⟩
section
variable(P:ai)(w:aj)
noncomputable def aZ(H:Hp)(h:az)(a:ah):HO->Prop
 |.lst xs=>xs.length<=sizeLine/\∃(its:List aa) (n:Nat),Vals xs its/\h.get? a=aB {cls:=.type "list",data:=.seq its.toArray n}
 |.tup xs=>xs.length<=sizeLine/\∃its:List aa,Vals xs its/\nq h a its.toArray
 |.dK kvs=>kvs.length<=sizeLine/\(a==sysModules)=false/\∃vs,KV kvs vs/\h.DictOf (iD P w) a vs
 |.dT kvs=>kvs.length<=sizeLine/\(a==sysModules)=false/\∃xs:List (List Key×ah×aa),
  Paired (λ(p:List Key×V)(q:List Key×ah×aa)=>p.1=q.1/\H q.2.1=aB (.tup (p.1.map kV))/\RelV p.2 q.2.2) kvs xs/\
  ∃o es ep,h.get? a=aB o/\o.ExactDict/\o.data=.dict es ep/\es.toList=xs.map (entryOfKey (tupleKind (iD P w)))/\(xs.map (·.1)).Nodup
 |.set S n=>h.SetOf (intKind P w) a S n
 |.ins C dx fs=>H dx=aB (.own a)/\fs.length<=1000/\dx≠a/\h.get? a=aB (PySem.W.instObj C dx)/\
  ∃mA,h.Ns1 dx mA/\(∀f,gJ (fs.lookup f) (mA f))/\PySem.Within mA (fs.map (·.1))
 |.own _=>∃o,h.get? a=aB o
 |.xd fs=>∃mA,h.Ns1 a mA/\∀f,gJ (fs.lookup f) (mA f)
 |.GI lo hi=>∃t u v,h.get? a=aB {cls:=.type "range",data:=.fields #[.int lo t,.int hi u,.int 1 v]}
 |.bN o u=>h.get? a=aB o/\aZ H h a u
 |.vn ps=>h.get? a=aB {cls:=.none,data:=.fields ps}
 |.met f x=>h.get? a=aB (PySem.W.methodObj (.ref f) (.ref x))
 |.ext φ=>φ h/\(∃o,h.get? a=aB o)/\∀h1 h2:az,φ h1->(∀o,h1.get? a=aB o->h2.get? a=aB o)->φ h2
noncomputable def fN(H:Hp)(h:az):Prop:=∀a o,H a=aB o->aZ P w H h a o
end
section
variable{P:ai}{w:aj}{H H':Hp}{h h':az}{a:ah}{o:HO}
theorem aZ.lt(x:aZ P w H h a o):a<h.objs.size:=by
 cases o with|lst xs=>obtain⟨_,_,_,_,e⟩:=x;exact cP e|tup xs=>obtain⟨_,_,_,p⟩:=x;exact p.lt|dK kvs=>obtain⟨_,_,_,_,o,_,_,e,_⟩:=x;exact cP e|dT kvs=>obtain⟨_,_,_,_,o,_,_,e,_⟩:=x;exact cP e|set S n=>obtain⟨o,_,_,_,e,_⟩:=x;exact cP e|ins C dx fs=>obtain⟨_,_,_,e,_⟩:=x;exact cP e|own y=>obtain⟨_,e⟩:=x;exact cP e|xd fs=>obtain⟨_,⟨_,_,_,e,_⟩,_⟩:=x;exact cP e|GI lo hi=>obtain⟨_,_,_,e⟩:=x;exact cP e|bN ob u=>obtain⟨e,_⟩:=x;exact cP e|vn ps=>exact cP (show h.get? a=aB _ from x)|met f y=>exact cP (show h.get? a=aB _ from x)|ext φ=>obtain⟨_,⟨_,e⟩,_⟩:=x;exact cP e
theorem Paired.vp{α β:Type}{F G:α->β->Prop}:∀{l₁:List α} {l₂:List β},Paired F l₁ l₂->(∀a b,F a b->G a b)->Paired G l₁ l₂|_,_,.nil,_=>.nil|_,_,.cons r t,f=>.cons (f _ _ r) (Paired.vp t f)
theorem aZ.stay(x:aZ P w H h a o)(k:∀b u,(b=a\/H b=aB (.own a))->h.get? b=aB u->h'.get? b=aB u)
 (ho:∀b,H b=aB (.own a)->H' b=aB (.own a)) (ht:∀b xs,H b=aB (.tup xs)->H' b=aB (.tup xs)):aZ P w H' h' a o:=by
 induction o with
 |lst xs=>obtain⟨z,its,n,r,e⟩:=x;exact⟨z,its,n,r,k _ _ (.inl rfl) e⟩
 |tup xs=>obtain⟨z,its,r,ob,e,c⟩:=x;exact⟨z,its,r,ob,k _ _ (.inl rfl) e,c⟩
 |dK kvs=>obtain⟨z,y,vs,r,ob,es,ep,e,c⟩:=x;exact⟨z,y,vs,r,ob,es,ep,k _ _ (.inl rfl) e,c⟩
 |dT kvs=>
  obtain⟨z,y,xs,r,ob,es,ep,e,c⟩:=x;exact⟨z,y,xs,Paired.vp r λp q z=>⟨z.1,ht _ _ z.2.1,z.2.2⟩,ob,es,ep,k _ _ (.inl rfl) e,c⟩
 |set S n=>obtain⟨ob,es,ep,t,e,c⟩:=x;exact⟨ob,es,ep,t,k _ _ (.inl rfl) e,c⟩
 |ins C dx fs=>
  obtain⟨d,z,ne,e,mA,⟨od,es,ep,e2,c⟩,r⟩:=x;exact⟨ho _ d,z,ne,k _ _ (.inl rfl) e,mA,⟨od,es,ep,k _ _ (.inr d) e2,c⟩,r⟩
 |own y=>obtain⟨ob,e⟩:=x;exact⟨ob,k _ _ (.inl rfl) e⟩
 |xd fs=>obtain⟨mA,⟨od,es,ep,e,c⟩,r⟩:=x;exact⟨mA,⟨od,es,ep,k _ _ (.inl rfl) e,c⟩,r⟩
 |GI lo hi=>obtain⟨t,u,v,e⟩:=x;exact⟨t,u,v,k _ _ (.inl rfl) e⟩
 |bN ob u ih=>obtain⟨e,q⟩:=x;exact⟨k _ _ (.inl rfl) e,ih q⟩
 |vn ps=>
  have e:h.get? a=aB {cls:=.none,data:=.fields ps}:=x;show h'.get? a=aB {cls:=.none,data:=.fields ps};exact k a _ (.inl rfl) e
 |met f y=>
  have e:h.get? a=aB (PySem.W.methodObj (.ref f) (.ref y)):=x;show h'.get? a=aB (PySem.W.methodObj (.ref f) (.ref y));exact k a _ (.inl rfl) e
 |ext φ=>obtain⟨p,⟨o,e⟩,st⟩:=x;exact⟨st _ _ p λo q=>k _ _ (.inl rfl) q,⟨o,k _ _ (.inl rfl) e⟩,st⟩
theorem fN.lt(x:fN P w H h)(e:H a=aB o):a<h.objs.size:=(x a o e).lt
theorem fN.fresh(x:fN P w H h)(e:h.objs.size<=a):H a=aC:=by
 cases q:H a with|none=>rfl|some u=>exact absurd (dS (x.lt q) e) (nj _)
theorem fN.kept(x:fN P w H h)(k:∀b u,h.get? b=aB u->h'.get? b=aB u):fN P w H h':=λa o e=>
 (x a o e).stay (λb u _ q=>k b u q) (λ_ q=>q) λ_ _ q=>q
theorem fN.laid(x:fN P w H h)(k:∀b u,h.get? b=aB u->h'.get? b=aB u)(hp:h.objs.size<=a)(new:aZ P w (upd H a o) h' a o):fN P w (upd H a o) h':=λb u e=>by
 have hn:=x.fresh hp;by_cases hb:b=a;subst hb;rw[gi]at e;cases e;exact new;rw[bQ hb]at e;exact(x b u e).stay (λc v _ q=>k c v q) (λc q=>by rw[bQ (gj q hn)];exact q) λc xs q=>by rw[bQ (gj q hn)];exact q
end
noncomputable def Rd(H:Hp)(a:ah)(u:HO):Prop:=H a=aB u\/∃o,H a=aB (.bN o u)
theorem Rd.ok{P:ai}{w:aj}{H:Hp}{h:az}{a:ah}{u:HO}(r:Rd H a u)(x:fN P w H h):aZ P w H h a u:=by rcases r with r|⟨o,r⟩;exact x a u r;obtain⟨_,q⟩:=x a _ r;exact q
noncomputable def tK:Option HO->Prop|some (.lst _)=>True|some (.dK _)=>True|some (.dT _)=>True|some (.set _ _)=>True|some (.ins _ _ _)=>True|some (.ext _)=>True|_=>False
section
variable{P:ai}{w:aj}{H:Hp}{h h':az}{x e:ah}{o':HO}
theorem fN.write(ok:fN P w H h)(mu:tK (H x))(he:e=x\/H e=aB (.own x))(k:∀b u,b≠e->h.get? b=aB u->h'.get? b=aB u)(yg:∃u,h'.get? e=aB u)
 (new:aZ P w (upd H x o') h' x o'):fN P w (upd H x o') h':=λb u q=>by
 have zB:∀c y,H c=aB (.own y)->c≠x:=λc y r z=>by subst z;rw[r]at mu;exact mu
 have GJ:∀c xs,H c=aB (.tup xs)->c≠x:=λc xs r z=>by subst z;rw[r]at mu;exact mu
 by_cases hb:b=x;subst hb;rw[gi]at q;cases q;exact new;rw[bQ hb]at q;by_cases vq:b=e;have q':H b=aB (.own x):=by rcases he with z|z;exact absurd (vq.trans z) hb;rw[vq];exact z
 rw[q]at q';cases q';obtain⟨v,hv⟩:=yg;exact⟨v,by rw[vq];exact hv⟩;refine(ok b u q).stay (λc v hc r=>k c v ?_ r) (λc r=>by rw[bQ (zB c b r)];exact r) λc xs r=>by rw[bQ (GJ c xs r)];exact r
 rcases hc with rfl|hc;exact vq;rintro rfl;rcases he with z|z;exact zB c b hc z;rw[hc]at z;cases z;exact hb rfl
end
structure Un(fs ex:List ah)(H H':Hp)(h h':az):Prop where
 keep:∀b o,h.get? b=aB o->H b=aC->b∉fs->b∉ex->h'.get? b=aB o
 slot:∀b o,h.get? b=aB o->H b=aC->b∈fs->b∉ex->∃sl,h'.get? b=aB {o with slots:=sl}
 free:∀b o,h.get? b=aB o->H b=aC->b∉ex->H' b=aC
 there:∀b o,h.get? b=aB o->b∉ex->∃o',h'.get? b=aB o'
 tups:∀b xs,H b=aB (.tup xs)->H' b=aB (.tup xs)
 i8:∀b o u,H b=aB (.bN o u)->H' b=aB (.bN o u)
 jz:∀b ps,H b=aB (.vn ps)->∃more,H' b=aB (.vn (ps++more))
section
variable{fs fs' ex ex':List ah}{H H1 H2:Hp}{h h1 h2 h':az}{a x e:ah}{o:HO}
theorem Un.any(u:Un fs ex H H1 h h1){b:ah}{ob:Obj}(q:h.get? b=aB ob)(n:H b=aC)(hx:b∉ex):∃sl,h1.get? b=aB {ob with slots:=sl}:=by by_cases hb:b∈fs;exact u.slot b ob q n hb hx;exact⟨ob.slots,u.keep b ob q n hb hx⟩
theorem Un.kept(k:∀b u,h.get? b=aB u->h'.get? b=aB u):Un fs ex H H h h':=
 ⟨λb ob q _ _ _=>k b ob q,λb ob q _ _ _=>⟨ob.slots,k b ob q⟩,λ_ _ _ n _=>n,λb ob q _=>⟨ob,k b ob q⟩,λ_ _ q=>q,λ_ _ _ q=>q,λ_ ps q=>⟨#[],by rw[q];simp⟩⟩
theorem Un.refl:Un fs ex H H h h:=Un.kept λ_ _ q=>q
theorem Un.laid(k:∀b u,h.get? b=aB u->h'.get? b=aB u)(hp:h.objs.size<=a)(hn:H a=aC):Un fs ex H (upd H a o) h h' where
 keep:=λb u q _ _ _=>k b u q
 slot:=λb u q _ _ _=>⟨u.slots,k b u q⟩
 free:=λb u q n _=>by rw[bQ (fB (dS (cP q) hp))];exact n
 there:=λb u q _=>⟨u,k b u q⟩
 tups:=λb xs q=>by rw[bQ (gj q hn)];exact q
 i8:=λb u xs q=>by rw[bQ (gj q hn)];exact q
 jz:=λb ps q=>⟨#[],by rw[bQ (gj q hn),q];simp⟩
theorem Un.write(mu:tK (H x))(he:e=x\/H e=aB (.own x))(k:∀b u,b≠e->h.get? b=aB u->h'.get? b=aB u)(yg:∃u,h'.get? e=aB u):Un fs ex H (upd H x o) h h':=by
 have hx:∀b,H b=aC->b≠x:=λb n z=>by subst z;rw[n]at mu;exact mu
 have hb:∀b,H b=aC->b≠e:=λb n z=>by
  subst z;rcases he with r|r
  exact hx b n r;rw[n]at r;cases r
 have hm:∀b u,H b=aB u->¬tK (aB u)->b≠x:=λb u q nm z=>by subst z;rw[q]at mu;exact nm mu
 refine⟨λb u q n _ _=>k b u (hb b n) q,λb u q n _ _=>⟨u.slots,k b u (hb b n) q⟩,λb u q n _=>by rw[bQ (hx b n)];exact n,λb u q _=>?_,
  λb xs q=>by rw[bQ (hm b _ q λz=>z)];exact q,λb u xs q=>by rw[bQ (hm b _ q λz=>z)];exact q,λb ps q=>⟨#[],by rw[bQ (hm b _ q λz=>z),q];simp⟩⟩
 by_cases vq:b=e;subst vq;exact yg;exact⟨u,k b u vq q⟩
end
noncomputable def El(h:az)(H:Hp):List ah:=(List.range h.objs.size).filter λa=>(H a).isSome
noncomputable def jA(h:az)(H:Hp):az:=PySem.W.hideAll h (El h H)
theorem RE(h:az)(H:Hp):(jA h H).objs.size=h.objs.size:=PySem.W.hideAll_size _ _
theorem RG{h:az}{H:Hp}{b:ah}{o:Obj}(e:h.get? b=aB o)(n:H b=aC):(jA h H).get? b=aB o:=
 PySem.W.hideAll_get _ e λhm=>by
  have q:(H b).isSome=true:=(vf.mp hm).2;rw[n]at q;simp at q
theorem RH{h:az}{H:Hp}{b:ah}{o:Obj}(e:(jA h H).get? b=aB o):h.get? b=aB o/\H b=aC:=by
 have e':h.get? b=aB o:=PySem.W.of_hideAll (El h H) e;refine⟨e',?_⟩;cases q:H b with
 |none=>rfl
 |some x=>
  have hm:b∈El h H:=vf.mpr ⟨tw.mpr (cP e'),by simp[q]⟩;have z:(jA h H).get? b=aC:=PySem.W.hideAll_none (El h H) hm;rw[z]at e;cases e
structure Mod(K:aO)(mg:Str->Option aa)(base:az):Prop where
 GK:K.In base
 glob:base.Ns mainGlobals mg
 blt:∃mb,base.Ns builtinsNs mb/\∀x:Str,x≠"__name__"->mb x=bootBuiltins x
 nolimit:base.NoLimit
set_option genInjectivity false in
structure Cx where
 prog:ai
 w:aj
 K:aO
 mg:Str->Option aa
 base:az
 A:ak
 N:List Str
 s₀:af
 H₀:Hp
 env:Env
 outer:List Env
 stack:List Env
 ex:List ah
 fn:Str->Bool
 calm:Bool
 pn:List (ah×Obj)
 xe:aa->af->Prop
noncomputable def frs(l:List Env):List ah:=l.filterMap (·.frame)
noncomputable abbrev Cx.fs(X:Cx):List ah:=frs X.outer
noncomputable def yh(sc:ay)(x:Str):Prop:=sc.names.lookup x=aB .local\/sc.names.lookup x=aB .cell\/sc.names.lookup x=aB .free
noncomputable def Loc(sc:ay)(x:Str):Prop:=sc.names.lookup x=aB .local\/sc.names.lookup x=aB .cell
noncomputable def Look(env:Env)(h:az)(m:Str->Option aa)(x:Str)(u:aa):Prop:=
 (env.kindOf x=aB .local/\m x=aB u)\/((env.kindOf x=aB .cell\/env.kindOf x=aB .free)/\∃c,env.cells.lookup x=aB c/\h.IsCell c (aB u))
structure Cx.Ok(X:Cx):Prop where
 mod:Mod X.K X.mg X.base
 kind:X.env.scope.kind=.function
 glob:X.env.globals=mainGlobals
 blt:X.env.builtins=builtinsNs
 above:X.s₀.heap.objs.size<=X.env.locals
 inj:∀x y c,X.env.cells.lookup x=aB c->X.env.cells.lookup y=aB c->x=y
 has:∀x,(X.env.kindOf x=aB .cell\/X.env.kindOf x=aB .free)->∃c,X.env.cells.lookup x=aB c
 zC:∀x c,X.fn x=true->X.env.cells.lookup x=aB c->X.s₀.heap.objs.size<=c
 hd:X.calm=true->X.A.handled=aC
 frames:X.A.frames=aB X.stack
 stk:X.stack=X.outer\/(X.stack=X.env::X.outer/\X.env.frame=aB X.env.locals)
 Em:∀b∈X.ex,b≠X.env.locals/\∀x c,X.env.cells.lookup x=aB c->c≠b
 bs:∀b o,X.base.get? b=aB o->X.s₀.heap.get? b=aB o/\X.H₀ b=aC
 vt:X.base.objs.size<=X.s₀.heap.objs.size
 nL:∀b o,X.base.get? b=aB o->b∉X.ex
 nM:∀b∈X.ex,b∉X.fs
 iE:X.s₀.heap.FunFrames X.base X.outer
 yi:∀b∈X.fs,X.H₀ b=aC
structure Inv(X:Cx)(pins:List (ah×Obj))(σ:List (Option V))(H:Hp)(s:af):Prop where
 ok:X.Ok
 os:s.os=X.s₀.os
 bare:AllBare s.gens
 base:Un X.fs X.ex X.H₀ H X.s₀.heap s.heap
 loc:∃m,s.heap.Ns X.env.locals m/\∀(i:Nat)(x:Str)(v:V),X.N[i]?=aB x->σ[i]?=aB (aB v)->yh X.env.scope x->∃u,RelV v u/\Look X.env s.heap m x u
 cell:∀x c,X.env.cells.lookup x=aB c->∃v,s.heap.IsCell c v
 free:H X.env.locals=aC
 fO:∀x c,X.env.cells.lookup x=aB c->H c=aC
 pin:∀p∈X.pn++pins,s.heap.get? p.1=aB p.2/\H p.1=aC/\p.1≠X.env.locals/\p.1∉X.fs/\∀v,p.2.data≠.cell v
 hok:fN X.prog X.w H s.heap
 len:σ.length=X.N.length
section
variable{X:Cx}{pins:List (ah×Obj)}{σ:List (Option V)}{H H':Hp}{s:af}{h':az}
theorem Cx.Ok.GL(ok:X.Ok){b:ah}{o:Obj}(e:X.base.get? b=aB o):b∉X.fs:=λhb=>by
 have:=(ok.iE.mem hb).1;rw[e]at this;cases this
theorem Inv.bs(I:Inv X pins σ H s):∀b o,X.base.get? b=aB o->s.heap.get? b=aB o/\H b=aC:=λb o e=>
 ⟨I.base.keep b o (I.ok.bs b o e).1 (I.ok.bs b o e).2 (I.ok.GL e) (I.ok.nL b o e),I.base.free b o (I.ok.bs b o e).1 (I.ok.bs b o e).2 (I.ok.nL b o e)⟩
theorem Inv.bk(I:Inv X pins σ H s):∀b o,X.base.get? b=aB o->s.heap.get? b=aB o:=λb o e=>(I.bs b o e).1
theorem Inv.mod(I:Inv X pins σ H s):Mod X.K X.mg X.base:=I.ok.mod
theorem Inv.jB(I:Inv X pins σ H s):X.K.In s.heap:=I.ok.mod.GK.keeps I.bk
theorem Inv.lt(I:Inv X pins σ H s):X.env.locals<s.heap.objs.size:=let⟨_,hn,_⟩:=I.loc;hn.lt
theorem Inv.sz(I:Inv X pins σ H s):X.s₀.heap.objs.size<=s.heap.objs.size:=iY I.ok.above (tE I.lt)
theorem Inv.GN(I:Inv X pins σ H s){a:ah}(h:s.heap.objs.size<=a):a∉X.fs:=λhb=>by
 obtain⟨_,o,ho,_⟩:=I.ok.iE.mem hb;exact absurd (dS (cP ho) (iY I.sz h)) (nj _)
theorem Inv.vz(I:Inv X pins σ H s):∀x c,X.env.cells.lookup x=aB c->c≠X.env.locals:=λx c e z=>by
 obtain⟨v,o,ho,hd⟩:=I.cell x c e;obtain⟨m,⟨o',es,ep,ho',hd',_⟩,_⟩:=I.loc;rw[z,ho']at ho;cases ho;rw[hd']at hd;cases hd
theorem Inv.iE(I:Inv X pins σ H s):s.heap.FunFrames X.base X.outer:=by
 have all:∀(l:List Env),(∀b∈frs l,b∈X.fs)->X.s₀.heap.FunFrames X.base l->s.heap.FunFrames X.base l:=by
  intro l;induction l with
  |nil=>intro _ _;trivial
  |cons env r ih=>
   intro hs hl;obtain⟨hk,⟨L,o,hf,hn,ho,hd⟩,hr⟩:=hl;have hL:L∈X.fs:=hs L (by unfold frs;rw[xM,hf];exact eX);obtain⟨sl,e⟩:=I.base.slot L o ho (I.ok.yi L hL) hL λz=>I.ok.nM L z hL;exact⟨hk,⟨L,_,hf,hn,e,hd⟩,ih (λb hb=>hs b (by unfold frs;rw[xM,hf];exact eU _ hb)) hr⟩
 exact all X.outer (λ_ hb=>hb) I.ok.iE
theorem Inv.stack(I:Inv X pins σ H s):s.heap.FunFrames X.base X.stack:=by rcases I.ok.stk with e|⟨e,hf⟩;rw[e];exact I.iE;rw[e];obtain⟨m,hn,_⟩:=I.loc;refine .cons (by rw[I.ok.kind];decide) hf hn ?_ I.iE;exact Heap.get?_none_of_le (iY I.ok.vt I.ok.above)
theorem Inv.kK(I:Inv X pins σ H s):∀b∈frs X.stack,b∈X.env.locals::X.fs:=λb hb=>by
 rcases I.ok.stk with e|⟨e,hf⟩;rw[e]at hb;exact eU _ hb;rw[e]at hb;unfold frs at hb;rw[xM,hf]at hb;exact hb
theorem Inv.lA(I:Inv X pins σ H s):∀b∈frs X.stack,H b=aC:=λb hb=>by
 rcases eV.mp (I.kK b hb)with e|hb;rw[e];exact I.free;obtain⟨_,o,ho,_⟩:=I.ok.iE.mem hb;exact I.base.free b o ho (I.ok.yi b hb) λz=>I.ok.nM b z hb
theorem Inv.step{g':Array GenState}{t':Nat}{d':Drawn}{ch:List ah}(I:Inv X pins σ H s)
 (hch:∀b∈ch,(b∈X.ex\/X.s₀.heap.objs.size<=b)/\b≠X.env.locals/\(∀x c,X.env.cells.lookup x=aB c->c≠b)/\∀p∈X.pn++pins,p.1≠b)
 (keep:∀b o,b≠X.env.locals->b∉X.fs->b∉ch->s.heap.get? b=aB o->H b=aC->h'.get? b=aB o)
 (slot:∀b o,b≠X.env.locals->b∈X.fs->b∉ch->s.heap.get? b=aB o->H b=aC->∃sl,h'.get? b=aB {o with slots:=sl}) (free:∀b o,b∉ch->s.heap.get? b=aB o->H b=aC->H' b=aC)
 (there:∀b o,b∉ch->s.heap.get? b=aB o->∃o',h'.get? b=aB o')
 (tups:∀b xs,H b=aB (.tup xs)->H' b=aB (.tup xs)) (i8:∀b o u,H b=aB (.bN o u)->H' b=aB (.bN o u)) (jz:∀b ps,H b=aB (.vn ps)->∃more,H' b=aB (.vn (ps++more)))
 (ns:∀m,s.heap.Ns X.env.locals m->h'.Ns X.env.locals m) (hok:fN X.prog X.w H' h') (hg:AllBare g') :
 Inv X pins σ H' {s with heap:=h',gens:=g',drawn:=d',toks:=t'}:=by
 have LQ:∀b o,X.s₀.heap.get? b=aB o->b≠X.env.locals:=λb o e=>fB (dS (cP e) I.ok.above);have tL:∀b o,X.s₀.heap.get? b=aB o->b∉X.ex->b∉ch:=λb o e hx hb=>by
  rcases(hch b hb).1 with z|z;exact hx z;exact absurd (dS (cP e) z) (nj _)
 have cellK:∀x c,X.env.cells.lookup x=aB c->∀v,s.heap.IsCell c v->h'.IsCell c v:=λx c e v dU=>by
  obtain⟨o,ho,hd⟩:=dU;have zD:c∉ch:=λz=>(hch c z).2.2.1 x c e rfl;by_cases hc:c∈X.fs;obtain⟨sl,q⟩:=slot c o (I.vz x c e) hc zD ho (I.fO x c e);exact⟨_,q,hd⟩;exact⟨o,keep c o (I.vz x c e) hc zD ho (I.fO x c e),hd⟩
 refine⟨I.ok,I.os,hg,⟨λb o e n hb hx=>?_,λb o e n hb hx=>?_,λb o e n hx=>?_,λb o e hx=>?_,λb xs e=>tups b xs (I.base.tups b xs e),λb o xs e=>i8 b o xs (I.base.i8 b o xs e),λb ps e=>?_⟩,?_,λx c e=>?_,?_,λx c e=>?_,λp hp=>?_,hok,I.len⟩;exact keep b o (LQ b o e) hb (tL b o e hx) (I.base.keep b o e n hb hx) (I.base.free b o e n hx);obtain⟨sl,e1⟩:=I.base.slot b o e n hb hx;obtain⟨RI,e2⟩:=slot b _ (LQ b o e) hb (tL b o e hx) e1 (I.base.free b o e n hx);exact⟨RI,e2⟩;obtain⟨o',e1⟩:=I.base.there b o e hx;exact free b o' (tL b o e hx) e1 (I.base.free b o e n hx);obtain⟨o',e1⟩:=I.base.there b o e hx;exact there b o' (tL b o e hx) e1;obtain⟨m1,e1⟩:=I.base.jz b ps e;obtain⟨m2,e2⟩:=jz b _ e1;exact⟨m1++m2,by rw[e2,Array.append_assoc]⟩;obtain⟨m,hn,hl⟩:=I.loc;refine⟨m,ns m hn,λi x v e1 e2 e3=>?_⟩;obtain⟨u,r,l⟩:=hl i x v e1 e2 e3;refine⟨u,r,?_⟩;rcases l with l|⟨k,c,e,z⟩
 exact .inl l;exact .inr ⟨k,c,e,cellK x c e _ z⟩;obtain⟨v,z⟩:=I.cell x c e;exact⟨v,cellK x c e v z⟩;obtain⟨m,⟨o,_,_,ho,_⟩,_⟩:=I.loc;exact free _ o (λz=>(hch _ z).2.1 rfl) ho I.free;obtain⟨v,o,ho,hd⟩:=I.cell x c e;exact free c o (λz=>(hch c z).2.2.1 x c e rfl) ho (I.fO x c e);obtain⟨e,n,ne,nf,d⟩:=I.pin p hp;have zD:p.1∉ch:=λz=>(hch p.1 z).2.2.2 p hp rfl;exact⟨keep p.1 p.2 ne nf zD e n,free p.1 p.2 zD e n,ne,nf,d⟩
theorem Inv.un{t':Nat}(I:Inv X pins σ H s)(u:Un X.fs [] H H' s.heap h')(hok:fN X.prog X.w H' h'):Inv X pins σ H' {s with heap:=h',toks:=t'}:=by
 obtain⟨m,⟨o,es,ep,ho,r⟩,_⟩:=id I.loc;obtain⟨sl,hL⟩:=u.any ho I.free (by simp);exact I.step (g':=s.gens) (d':=s.drawn) (ch:=[]) (λ_ z=>nomatch z) (λb o _ hb _ e n=>u.keep b o e n hb (by simp)) (λb o _ hb _ e n=>u.slot b o e n hb (by simp)) (λb o _ e n=>u.free b o e n (by simp)) (λb o _ e=>u.there b o e (by simp)) u.tups u.i8 u.jz (λm' hm=>by
  obtain⟨o',es',yj,ho',r'⟩:=hm;rw[ho]at ho';cases ho';exact⟨_,es',yj,hL,r'⟩) hok I.bare
theorem Inv.call{g':Array GenState}{t':Nat}{d':Drawn}{ch:List ah}(I:Inv X pins σ H s)(u:Un (frs X.stack) ch H H' s.heap h')(hok:fN X.prog X.w H' h')(hg:AllBare g')
 (hch:∀b∈ch,(b∈X.ex\/X.s₀.heap.objs.size<=b)/\b≠X.env.locals/\(∀x c,X.env.cells.lookup x=aB c->c≠b)/\∀p∈X.pn++pins,p.1≠b) :
 Inv X pins σ H' {s with heap:=h',gens:=g',drawn:=d',toks:=t'}:=by
 obtain⟨m,⟨o,es,ep,ho,r⟩,_⟩:=id I.loc;obtain⟨sl,hL⟩:=u.any ho I.free λz=>(hch _ z).2.1 rfl;exact I.step (ch:=ch) hch (λb o hL hb hc e n=>u.keep b o e n (λz=>(eV.mp (I.kK b z)).elim hL hb) hc) (λb o _ _ hc e n=>u.any e n hc) (λb o hc e n=>u.free b o e n hc) (λb o hc e=>u.there b o e hc) u.tups u.i8 u.jz (λm' hm=>by
  obtain⟨o',es',yj,ho',r'⟩:=hm;rw[ho]at ho';cases ho';exact⟨_,es',yj,hL,r'⟩) hok hg
theorem Inv.turned{t':Nat}{it:ah}(I:Inv X pins σ H s)(k:∀b o,b≠it->s.heap.get? b=aB o->h'.get? b=aB o)(hn:H it=aC)(hL:it≠X.env.locals)
 (h1:it∈X.ex\/X.s₀.heap.objs.size<=it) (h2:∀x c,X.env.cells.lookup x=aB c->c≠it) (h3:∀p∈X.pn++pins,p.1≠it):Inv X pins σ H {s with heap:=h',toks:=t'}:=by
 have LR:∀b u,H b=aB u->b≠it:=λb u e z=>by rw[z,hn]at e;cases e
 refine I.step (g':=s.gens) (d':=s.drawn) (ch:=[it]) (λb hb=>?_) (λb o _ _ hc e _=>k b o (λz=>hc (by simp[z])) e) (λb o _ _ hc e _=>⟨o.slots,k b o (λz=>hc (by simp[z])) e⟩) (λ_ _ _ _ n=>n)
  (λb o hc e=>⟨o,k b o (λz=>hc (by simp[z])) e⟩) (λ_ _ e=>e) (λ_ _ _ e=>e) (λb ps e=>⟨#[],by rw[e];simp⟩) (λm hm=>?_) (λb u e=>?_) I.bare
 have e:b=it:=by simpa using hb
 subst e;exact⟨h1,hL,h2,h3⟩;obtain⟨o,es,ep,ho,r⟩:=hm;exact⟨o,es,ep,k _ o (gf hL) ho,r⟩;refine(I.hok b u e).stay (λc v hc q=>k c v ?_ q) (λ_ q=>q) λ_ _ q=>q;rcases hc with z|z
 rw[z];exact LR b u e;exact LR c _ z
theorem Inv.tok(I:Inv X pins σ H s)(t:Nat):Inv X pins σ H {s with toks:=t}:=I.un (h':=s.heap) (t':=t) Un.refl I.hok
theorem Inv.kept{t':Nat}(I:Inv X pins σ H s)(k:∀b u,s.heap.get? b=aB u->h'.get? b=aB u):Inv X pins σ H {s with heap:=h',toks:=t'}:=I.un (Un.kept k) (I.hok.kept k)
theorem Inv.laid{a:ah}{o:HO}{t':Nat}(I:Inv X pins σ H s)(k:∀b u,s.heap.get? b=aB u->h'.get? b=aB u)(hp:s.heap.objs.size<=a)(new:aZ X.prog X.w (upd H a o) h' a o) :
 Inv X pins σ (upd H a o) {s with heap:=h',toks:=t'}:=I.un (Un.laid k hp (I.hok.fresh hp)) (I.hok.laid k hp new)
theorem Inv.write{x e:ah}{o:HO}{t':Nat}(I:Inv X pins σ H s)(mu:tK (H x))(he:e=x\/H e=aB (.own x))(k:∀b u,b≠e->s.heap.get? b=aB u->h'.get? b=aB u)(yg:∃u,h'.get? e=aB u)
 (new:aZ X.prog X.w (upd H x o) h' x o):Inv X pins σ (upd H x o) {s with heap:=h',toks:=t'}:=I.un (Un.write mu he k yg) (I.hok.write mu he k yg new)
theorem Inv.lB{tM:List (ah×Obj)}(I:Inv X pins σ H s)(h:∀p∈tM,s.heap.get? p.1=aB p.2/\H p.1=aC/\p.1≠X.env.locals/\p.1∉X.fs/\∀v,p.2.data≠.cell v):Inv X tM σ H s:=
 ⟨I.ok,I.os,I.bare,I.base,I.loc,I.cell,I.free,I.fO,λp hp=>(nh.mp hp).elim (λz=>I.pin p (zf _ z)) (h p),I.hok,I.len⟩
theorem LS{N:List Str}(hN:N.Nodup){i j:Nat}{x:Str}(a:N[i]?=aB x)(b:N[j]?=aB x):i=j:=by obtain⟨h1,e1⟩:=jK.mp a;obtain⟨h2,e2⟩:=jK.mp b;exact(List.getElem_inj hN).mp (e1.trans e2.symm)
theorem LU{M:Model}{A:ak}{E:aa->af->Prop}{i:Nat}{x:Str}{v:V}{u:aa}{Q:Unit->af->Prop}(I:Inv X pins σ H s)(hN:X.N.Nodup)(hi:X.N[i]?=aB x)(hx:Loc X.env.scope x)(r:RelV v u)
 (h:∀s',Inv X pins (σ.set i (aB v)) H s'->(∃a,Heap.SameBut a s.heap s'.heap/\(a=X.env.locals\/X.env.cells.lookup x=aB a))->Q () s') (hf:autoParam (X.fn x=true\/X.env.scope.names.lookup x=aB .local) L2.aF._auto_1):wpAny M A (storeName X.env x u) Q E s:=by
 obtain⟨m,hn,hl⟩:=id I.loc;have hcls:(X.env.scope.kind == .class|| (X.env.scope.kind == .module&&X.env.locals != X.env.globals))=false:=by rw[I.ok.kind];rfl
 have zE:i<σ.length:=by rw[I.len];exact(jK.mp hi).1
 have vz:=I.vz;have tracked:∀{a:ah}{h':az},(∃o,s.heap.get? a=aB o/\H a=aC)->Heap.SameBut a s.heap h'->fN X.prog X.w H h':=λ{a h'} ha hs b ob e=>by
  obtain⟨_,_,hfree⟩:=ha;refine(I.hok b ob e).stay (λc w' hc q=>(hs.2 c ?_).trans q) (λ_ q=>q) λ_ _ q=>q;rintro rfl;rcases hc with rfl|hc;rw[hfree]at e;cases e;rw[hfree]at hc;cases hc
 rcases hx with hk|hk;refine wpAny_storeName_local hk hn (λh' hn' hs=>?_) hcls;obtain⟨oL,_,_,RJ,_⟩:=id hn;refine h _ ⟨I.ok,I.os,I.bare,⟨λb o e n hb hx=>?_,λb o e n hb hx=>?_,I.base.free,λb o e hx=>?_,I.base.tups,I.base.i8,I.base.jz⟩,⟨_,hn',λj y v' e1 e2 e3=>?_⟩,λy c e=>?_,I.free,I.fO,λp hp=>?_,tracked ⟨oL,RJ,I.free⟩ hs,by simpa using I.len⟩ ⟨_,hs,.inl rfl⟩;exact(hs.2 b (fB (dS (cP e) I.ok.above))).trans (I.base.keep b o e n hb hx);obtain⟨sl,e1⟩:=I.base.slot b o e n hb hx;exact⟨sl,(hs.2 b (fB (dS (cP e) I.ok.above))).trans e1⟩;obtain⟨o',e1⟩:=I.base.there b o e hx;exact⟨o',(hs.2 b (fB (dS (cP e) I.ok.above))).trans e1⟩;by_cases hj:j=i;subst hj;rw[hi]at e1;cases e1;rw[xK zE]at e2;cases e2;exact⟨u,r,.inl ⟨hk,by simp⟩⟩;rw[zg (gf hj)]at e2;obtain⟨u',r',q⟩:=hl j y v' e1 e2 e3;refine⟨u',r',?_⟩;rcases q with⟨k,e⟩|⟨k,c,e,z⟩;refine .inl ⟨k,?_⟩;have:y≠x:=λe=>hj (LS hN e1 (e▸hi));simp[this,e];exact .inr ⟨k,c,e,z.sameBut hs (vz y c e)⟩;obtain⟨w',z⟩:=I.cell y c e;exact⟨w',z.sameBut hs (vz y c e)⟩;obtain⟨e,n,ne,nf,d⟩:=I.pin p hp;exact⟨(hs.2 p.1 ne).trans e,n,ne,nf,d⟩;have hfn:X.fn x=true:=by rcases hf with z|z;exact z;rw[z]at hk;cases hk
 obtain⟨c,hc⟩:=I.ok.has x (.inl hk);obtain⟨w',z⟩:=I.cell x c hc;refine wpAny_storeName_cell I.ok.kind hk hc z (λh' hc' hs=>?_);obtain⟨oc,hoc,GO⟩:=id z;refine h {s with heap:=h'} ⟨I.ok,I.os,I.bare,⟨λb o e n hb hx=>?_,λb o e n hb hx=>?_,I.base.free,λb o e hx=>?_,I.base.tups,I.base.i8,I.base.jz⟩,⟨m,hn.sameBut hs (gf (vz x c hc)),λj y v' e1 e2 e3=>?_⟩,λy c' e=>?_,I.free,I.fO,λp hp=>?_,tracked ⟨oc,hoc,I.fO x c hc⟩ hs,by simpa using I.len⟩ ⟨c,hs,.inr hc⟩;exact(hs.2 b (fB (dS (cP e) (I.ok.zC x c hfn hc)))).trans (I.base.keep b o e n hb hx);obtain⟨sl,e1⟩:=I.base.slot b o e n hb hx;exact⟨sl,(hs.2 b (fB (dS (cP e) (I.ok.zC x c hfn hc)))).trans e1⟩;obtain⟨o',e1⟩:=I.base.there b o e hx;exact⟨o',(hs.2 b (fB (dS (cP e) (I.ok.zC x c hfn hc)))).trans e1⟩;by_cases hj:j=i;subst hj;rw[hi]at e1;cases e1;rw[xK zE]at e2;cases e2;exact⟨u,r,.inr ⟨.inl hk,c,hc,hc'⟩⟩;rw[zg (gf hj)]at e2;obtain⟨u',r',q⟩:=hl j y v' e1 e2 e3;refine⟨u',r',?_⟩;rcases q with q|⟨k,c',e,z'⟩;exact .inl q;refine .inr ⟨k,c',e,z'.sameBut hs ?_⟩;rintro rfl;exact hj (LS hN e1 (I.ok.inj _ _ _ e hc▸hi));by_cases hcc:c'=c;subst hcc;exact⟨_,hc'⟩;obtain⟨w2,z2⟩:=I.cell y c' e;exact⟨w2,z2.sameBut hs hcc⟩;obtain⟨e,n,ne,nf,d⟩:=I.pin p hp;refine⟨(hs.2 p.1 ?_).trans e,n,ne,nf,d⟩;intro q;rw[q,hoc]at e;have q':oc=p.2:=jN e;exact d w' (by rw[<-q'];exact GO)
theorem GP{M:Model}{A:ak}{E:aa->af->Prop}{i:Nat}{x:Str}{v:V}{u:aa}{Q:Unit->af->Prop}(I:Inv X pins σ H s)(hN:X.N.Nodup)(hi:X.N[i]?=aB x)(hx:Loc X.env.scope x)(r:RelV v u)
 (h:∀s',Inv X pins (σ.set i (aB v)) H s'->Q () s') (hf:autoParam (X.fn x=true\/X.env.scope.names.lookup x=aB .local) L2.aF._auto_1):wpAny M A (storeName X.env x u) Q E s:=
 LU I hN hi hx r (λs' I' _=>h s' I') hf
theorem Inv.zF{s':af}{ch:List ah}(I:Inv X pins σ H s)(ho:s'.os=s.os)(u:Un (frs X.stack) ch H H' s.heap s'.heap)(hok:fN X.prog X.w H' s'.heap)(hg:AllBare s'.gens)
 (hch:∀b∈ch,(b∈X.ex\/X.s₀.heap.objs.size<=b)/\b≠X.env.locals/\(∀x c,X.env.cells.lookup x=aB c->c≠b)/\∀p∈X.pn++pins,p.1≠b):Inv X pins σ H' s':=by
 obtain⟨h',g',d',t',o'⟩:=s';have e:o'=s.os:=ho;subst e;exact I.call (g':=g') (t':=t') (d':=d') u hok hg hch
end
noncomputable abbrev XK:=aa->Option ah->Hp->Prop
noncomputable abbrev St:=List (Option V)
noncomputable abbrev VK:=V->Hp->Prop
noncomputable abbrev TE:=St->Hp->VK->Prop
noncomputable abbrev TT:=St->Hp->(Bool->Hp->Prop)->Prop
noncomputable abbrev TA:=St->Hp->(List V->Hp->Prop)->Prop
set_option genInjectivity false in
structure Ends where
 nx:St->Hp->Prop
 rt:VK
 bk:St->Hp->Prop:=λ_ _=>False
 ct:St->Hp->Prop:=λ_ _=>False
noncomputable abbrev TS:=Ends->St->Hp->Prop
noncomputable def EP(X:Cx)(pins:List (ah×Obj))(σ:St)(Q:VK)(u:aa)(s':af):Prop:=∃v H',Inv X pins σ H' s'/\RelV v u/\Q v H'
noncomputable def TP(X:Cx)(pins:List (ah×Obj))(σ:St)(Q:Bool->Hp->Prop)(b:Bool)(s':af):Prop:=∃H',Inv X pins σ H' s'/\Q b H'
noncomputable def AP(X:Cx)(pins:List (ah×Obj))(σ:St)(Q:List V->Hp->Prop)(us:List aa)(s':af):Prop:=∃vs H',Inv X pins σ H' s'/\Vals vs us/\Q vs H'
theorem EP.el{X:Cx}{pins:List (ah×Obj)}{σ:St}{Q:VK}{u:aa}{s':af}{P:Prop}(q:EP X pins σ Q u s')(k:∀v H',Inv X pins σ H' s'->RelV v u->Q v H'->P):P:=by obtain⟨v,H',a,b,c⟩:=q;exact k v H' a b c
theorem TP.el{X:Cx}{pins:List (ah×Obj)}{σ:St}{Q:Bool->Hp->Prop}{b:Bool}{s':af}{P:Prop}(q:TP X pins σ Q b s')(k:∀H',Inv X pins σ H' s'->Q b H'->P):P:=by obtain⟨H',a,c⟩:=q;exact k H' a c
theorem AP.el{X:Cx}{pins:List (ah×Obj)}{σ:St}{Q:List V->Hp->Prop}{us:List aa}{s':af}{P:Prop}(q:AP X pins σ Q us s')(k:∀vs H',Inv X pins σ H' s'->Vals vs us->Q vs H'->P):P:=by obtain⟨v,H',a,b,c⟩:=q;exact k v H' a b c
noncomputable def SP(X:Cx)(pins:List (ah×Obj))(D:Ends)(f:Flow)(s':af):Prop:=
 match f with|.next=>∃σ' H',Inv X pins σ' H' s'/\D.nx σ' H'|.brk=>∃σ' H',Inv X pins σ' H' s'/\D.bk σ' H'|.cont=>∃σ' H',Inv X pins σ' H' s'/\D.ct σ' H'|.ret u=>∃v σ' H',Inv X pins σ' H' s'/\RelV v u/\D.rt v H'
noncomputable def PE(X:Cx)(e:ao)(t:TE):Prop:=
 ∀(pins:List (ah×Obj))(s:af)(σ:St)(H:Hp)(Q:VK),Inv X pins σ H s->t σ H Q->wpAny (model X.prog X.w) X.A (eval e X.env) (EP X pins σ Q) X.xe s
noncomputable def PT(X:Cx)(e:ao)(t:TT):Prop:=
 ∀(pins:List (ah×Obj))(s:af)(σ:St)(H:Hp)(Q:Bool->Hp->Prop),Inv X pins σ H s->t σ H Q->wpAny (model X.prog X.w) X.A (isTrue e X.env (eval e X.env)) (TP X pins σ Q) X.xe s
noncomputable def PW(X:Cx)(e:ao)(t:TT):Prop:=
 ∀(whole:Sem aa)(pins:List (ah×Obj))(s:af)(σ:St)(H:Hp)(Q:Bool->Hp->Prop),Inv X pins σ H s->t σ H Q->wpAny (model X.prog X.w) X.A (isTrue e X.env whole) (TP X pins σ Q) X.xe s
theorem PW.pt{X:Cx}{e:ao}{t:TT}(h:PW X e t):PT X e t:=h _
noncomputable def PA(X:Cx)(es:List ao)(t:TA):Prop:=
 ∀(pos:Pos)(pins:List (ah×Obj))(s:af)(σ:St)(H:Hp)(Q:List V->Hp->Prop),Inv X pins σ H s->t σ H Q->wpAny (model X.prog X.w) X.A (spliced (backTo pos (starEach es X.env))) (AP X pins σ Q) X.xe s
noncomputable def PS(X:Cx)(st:aq)(t:TS):Prop:=
 ∀(pins:List (ah×Obj))(s:af)(σ:St)(H:Hp)(D:Ends),Inv X pins σ H s->t D σ H->wpAny (model X.prog X.w) X.A (exec st X.env) (SP X pins D) X.xe s
noncomputable def kE(X:Cx)(st:List aq)(t:TS):Prop:=
 ∀(pins:List (ah×Obj))(s:af)(σ:St)(H:Hp)(D:Ends),Inv X pins σ H s->t D σ H->wpAny (model X.prog X.w) X.A (execs st X.env) (SP X pins D) X.xe s
theorem bG{α:Type}{t:Sem α}{Q Q':α->af->Prop}{M:Model}{A:ak}{E:aa->af->Prop}{s:af}(h:wpAny M A t Q E s)(hQ:∀a s,Q a s->Q' a s):wpAny M A t Q' E s:=nB h hQ λ_ _ x=>x
section
variable{X:Cx}
noncomputable def GQ(i:Nat):TE:=λσ H Q=>∃v,σ[i]?=aB (aB v)/\Q v H
noncomputable def tC(v:V):TE:=λ_ H Q=>Q v H
theorem RK{i:Nat}{x:Str}{pos:Pos}(hN:X.N[i]?=aB x)(hv:yh X.env.scope x)(hd:autoParam ((x==("__debug__" : Str))=false) L2.aD._auto_1)(hcd:autoParam ((x==("__classdict__" : Str))=false) L2.aD._auto_1):PE X (.Name x pos) (GQ i):=by
 intro pins s σ H Q I h;obtain⟨v,e,h⟩:=h;obtain⟨m,hn,hl⟩:=I.loc;obtain⟨u,r,l⟩:=hl i x v hN e hv;have fin:EP X pins σ Q u s:=⟨v,H,I,r,h⟩
 rcases l with⟨hk,hm⟩|⟨hk,c,hc,hcell⟩;exact wpAny_Name (wpAny_loadName_local I.ok.kind hk hn hm fin) hd;rcases hk with hk|hk;exact wpAny_Name (wpAny_loadName_cell I.ok.kind hk hc hcell fin) hd;exact wpAny_Name (wpAny_loadName_free I.ok.kind hk hc hcell fin hcd) hd
theorem RL{i j pos}:PE X (.Constant (.int i) j pos) (tC (.int i)):=λ_ _ _ H _ I h=>wpAny_Constant_int ⟨.int i,H,I.tok _,⟨_,rfl⟩,h⟩
theorem zG{b j pos}:PE X (.Constant (.bool b) j pos) (tC (.bl b)):=λ_ _ _ H _ I h=>Constant_bool ⟨.bl b,H,I,rfl,h⟩
theorem RM{j pos}:PE X (.Constant .none j pos) (tC .aI):=λ_ _ _ H _ I h=>Constant_none ⟨.aI,H,I,rfl,h⟩
theorem RN{x j pos}:PE X (.Constant (.str x) j pos) (tC (.str x)):=λ_ _ _ H _ I h=>Calls.Constant_str ⟨.str x,H,I.tok _,⟨_,rfl⟩,h⟩
noncomputable def Gl(X:Cx)(x:Str):Prop:=X.env.kindOf x=aB .globalImplicit
theorem GR{E:aa->af->Prop}{pins:List (ah×Obj)}{s:af}{σ:St}{H:Hp}{x:Str}{u:aa}{pos:Pos}{Q:aa->af->Prop}(I:Inv X pins σ H s)(hg:Gl X x)(hm:X.mg x=aB u)(h:Q u s)
 (hd:autoParam ((x==("__debug__" : Str))=false) L2.aD._auto_1):wpAny (model X.prog X.w) X.A (eval (.Name x pos) X.env) Q E s:=
 Calls.Name_function_global I.ok.kind hg (Calls.loadGlobal_global (by rw[I.ok.glob];exact I.mod.glob.keeps I.bk) hm h) hd
theorem vA{E:aa->af->Prop}{pins:List (ah×Obj)}{s:af}{σ:St}{H:Hp}{x:Str}{u:aa}{pos:Pos}{Q:aa->af->Prop}(I:Inv X pins σ H s)(hg:Gl X x)(hm:X.mg x=aC)(hv:bootBuiltins x=aB u)(h:Q u s)
 (hn:autoParam (x≠"__name__") L2.aD._auto_1) (hd:autoParam ((x==("__debug__" : Str))=false) L2.aD._auto_1):wpAny (model X.prog X.w) X.A (eval (.Name x pos) X.env) Q E s:=by
 obtain⟨mb,h1,h2⟩:=I.mod.blt;exact Calls.Name_function_global I.ok.kind hg (Calls.loadGlobal_builtin (by rw[I.ok.glob];exact I.mod.glob.keeps I.bk) hm (by rw[I.ok.blt];exact h1.keeps I.bk) ((h2 x hn).trans hv) h) hd
theorem RO{x:Str}{v:V}{u:aa}{pos:Pos}(hg:Gl X x)(hm:X.mg x=aB u)(r:RelV v u)(hd:autoParam ((x==("__debug__" : Str))=false) L2.aD._auto_1):PE X (.Name x pos) (tC v):=
 λ_ _ _ H _ I h=>GR I hg hm ⟨v,H,I,r,h⟩ hd
theorem RP{x:Str}{v:V}{u:aa}{pos:Pos}(hg:Gl X x)(hm:X.mg x=aC)(hv:bootBuiltins x=aB u)(r:RelV v u)(hn:autoParam (x≠"__name__") L2.aD._auto_1)(hd:autoParam ((x==("__debug__" : Str))=false) L2.aD._auto_1):PE X (.Name x pos) (tC v):=
 λ_ _ _ H _ I h=>vA I hg hm hv ⟨v,H,I,r,h⟩ hn hd
variable{a b:ao}{ta tb:TE}{pos:Pos}
variable{tA Eo:TT}{rest:List ao}
noncomputable def GS(t u:TT):TT:=λσ H Q=>t σ H λc H1=>if c=true then u σ H1 Q else Q false H1
noncomputable def RQ(t u:TT):TT:=λσ H Q=>t σ H λc H1=>if c=true then Q true H1 else u σ H1 Q
noncomputable def GU(t:TT):TT:=λσ H Q=>t σ H λc H1=>Q (!c) H1
theorem RS(ha:PT X a tA):PW X (.BoolOp .And [a] pos) tA:=by
 intro wh pins s σ H Q I h;refine isTrue_and (bG (ha pins s σ H Q I h) λc s1 e=>?_);cases c with|true=>exact isTrue_and_nil e|false=>exact e
theorem RT(ha:PT X a tA):PW X (.BoolOp .Or [a] pos) tA:=by
 intro wh pins s σ H Q I h;refine isTrue_or (bG (ha pins s σ H Q I h) λc s1 e=>?_);cases c with|false=>exact isTrue_or_nil e|true=>exact e
theorem RU(ha:PT X a tA)(hb:PW X (.BoolOp .And (b::rest) pos) Eo):PW X (.BoolOp .And (a::b::rest) pos) (GS tA Eo):=by
 intro wh pins s σ H Q I h;refine isTrue_and (bG (ha pins s σ H _ I h) λc s1 z9=>z9.el λH1 I1 q1=>?_);cases c with|true=>exact hb wh pins s1 σ H1 Q I1 q1|false=>exact⟨H1,I1,q1⟩
theorem pw_or(ha:PT X a tA)(hb:PW X (.BoolOp .Or (b::rest) pos) Eo):PW X (.BoolOp .Or (a::b::rest) pos) (RQ tA Eo):=by
 intro wh pins s σ H Q I h;refine isTrue_or (bG (ha pins s σ H _ I h) λc s1 z9=>z9.el λH1 I1 q1=>?_);cases c with|true=>exact⟨H1,I1,q1⟩|false=>exact hb wh pins s1 σ H1 Q I1 q1
theorem RV(ha:PT X a tA):PT X (.UnaryOp .Not a pos) (GU tA):=by intro pins s σ H Q I h;exact isTrue_not (ha pins s σ H (λc H1=>Q (!c) H1) I h)
noncomputable def zH(ta tb:TE):TE:=λσ H Q=>ta σ H λx H1=>∃c,x=.bl c/\if c=true then tb σ H1 Q else Q (.bl false) H1
noncomputable def GV(ta tb:TE):TE:=λσ H Q=>ta σ H λx H1=>∃c,x=.bl c/\if c=true then Q (.bl true) H1 else tb σ H1 Q
noncomputable def zI(ta:TE):TE:=λσ H Q=>ta σ H λx H1=>∃c,x=.bl c/\Q (.bl (!c)) H1
theorem RW{op}{t:TE}(h:PE X a t):PE X (.BoolOp op [a] pos) t:=λpins s σ H Q I hw=>BoolOp_one (h pins s σ H Q I hw)
theorem RX(ha:PE X a ta)(hb:PE X (.BoolOp .And (b::rest) pos) tb):PE X (.BoolOp .And (a::b::rest) pos) (zH ta tb):=by
 intro pins s σ H Q I h;refine BoolOp_and (bG (ha pins s σ H _ I h) λv s1 z9=>z9.el λx H1 I1 r1 q1=>?_);obtain⟨c,rfl,q1⟩:=q1;cases r1;refine pR ?_;cases c with|true=>exact hb pins s1 σ H1 Q I1 q1|false=>exact⟨.bl false,H1,I1,rfl,q1⟩
theorem zJ(ha:PE X a ta)(hb:PE X (.BoolOp .Or (b::rest) pos) tb):PE X (.BoolOp .Or (a::b::rest) pos) (GV ta tb):=by
 intro pins s σ H Q I h;refine BoolOp_or (bG (ha pins s σ H _ I h) λv s1 z9=>z9.el λx H1 I1 r1 q1=>?_);obtain⟨c,rfl,q1⟩:=q1;cases r1;refine pR ?_;cases c with|false=>exact hb pins s1 σ H1 Q I1 q1|true=>exact⟨.bl true,H1,I1,rfl,q1⟩
theorem RY(ha:PE X a ta):PE X (.UnaryOp .Not a pos) (zI ta):=by intro pins s σ H Q I h;refine UnaryOp_ (bG (ha pins s σ H _ I h) λv s1 z9=>z9.el λx H1 I1 r1 q1=>?_);obtain⟨c,rfl,q1⟩:=q1;cases r1;exact not_of (pR ⟨.bl (!c),H1,I1,rfl,q1⟩)
noncomputable def RZ(t:TT)(ta tb:TE):TE:=λσ H Q=>t σ H λc H1=>if c=true then ta σ H1 Q else tb σ H1 Q
theorem R1{c:ao}(hc:PT X c tA)(ha:PE X a ta)(hb:PE X b tb):PE X (.IfExp c a b pos) (RZ tA ta tb):=by
 intro pins s σ H Q I h;refine wpAny_IfExp (bG (hc pins s σ H _ I h) λd s1 z9=>z9.el λH1 I1 q1=>?_);cases d with|true=>exact ha pins s1 σ H1 Q I1 q1|false=>exact hb pins s1 σ H1 Q I1 q1
end
noncomputable def cN(K:aO)(H:Hp)(a:ah)(xs:List V):Prop:=
 Rd H a (.lst xs)\/
  ∃(o:Obj) (its:Array aa) (n:Nat),K.lookup a=aB o/\o.cls=.type "list"/\o.dict=aC/\o.data=.seq its n/\its.size<=sizeLine/\Vals xs its.toList
noncomputable def bZ(K:aO)(H:Hp)(a:ah)(xs:List V):Prop:=
 Rd H a (.tup xs)\/
  ∃(o:Obj) (its:Array aa) (n:Nat),K.lookup a=aB o/\o.cls=.type "tuple"/\o.dict=aC/\o.data=.seq its n/\its.size<=sizeLine/\Vals xs its.toList
noncomputable def GW:aa->Option V|.none=>aB .aI|.bool b=>aB (.bl b)|.int i _=>aB (.int i)|.str x _=>aB (.str x)|.bytes b _=>aB (.zy b)|.float b _=>aB (.ye b)|.ref a=>aB (.ref a)|.type n=>aB (.ty n)|_=>aC
theorem RelV.abs{x:V}{u:aa}(r:RelV x u):GW u=aB x:=by
 cases x with|aI=>cases r;rfl|bl _=>cases r;rfl|int _=>obtain⟨t,rfl⟩:=r;rfl|str _=>obtain⟨t,rfl⟩:=r;rfl|zy _=>obtain⟨t,rfl⟩:=r;rfl|ye _=>obtain⟨t,rfl⟩:=r;rfl|ref _=>cases r;rfl|ty _=>cases r;rfl
theorem RelV.inj{x y:V}{u:aa}(r:RelV x u)(q:RelV y u):x=y:=jN (r.abs.symm.trans q.abs)
theorem Vals.inj:∀{xs ys:List V} {us:List aa},Vals xs us->Vals ys us->xs=ys|_,_,_,.nil,.nil=>rfl|_,_,_,.cons r t,.cons r' t'=>by rw[r.inj r',Vals.inj t t']
section
variable{X:Cx}{pins:List (ah×Obj)}{σ:St}{H:Hp}{s:af}{a:ah}{xs ys:List V}
theorem cN.of{K:aO}(h:H a=aB (.lst xs)):cN K H a xs:=.inl (.inl h)
theorem bZ.of{K:aO}(h:H a=aB (.tup xs)):bZ K H a xs:=.inl (.inl h)
theorem Inv.list(I:Inv X pins σ H s)(h:cN X.K H a xs):∃its:List aa,Vals xs its/\PlainL s.heap a its.toArray/\xs.length<=sizeLine:=by rcases h with h|⟨o,its,n,hk,hc,hd,hs,hz,r⟩;obtain⟨z,its,n,r,e⟩:=h.ok I.hok;exact⟨its,r,⟨_,n,e,rfl,rfl,rfl⟩,z⟩;refine⟨its.toList,r,⟨o,n,I.jB a o hk,hc,hd,by simpa using hs⟩,?_⟩;have e:=r.length;simp only[zw]at e;lia
theorem Inv.nN(I:Inv X pins σ H s)(h:bZ X.K H a xs):∃its:List aa,Vals xs its/\nq s.heap a its.toArray/\xs.length<=sizeLine:=by rcases h with h|⟨o,its,n,hk,hc,hd,hs,hz,r⟩;obtain⟨z,its,r,p⟩:=h.ok I.hok;exact⟨its,r,p,z⟩;refine⟨its.toList,r,⟨o,I.jB a o hk,hc,⟨n,by simpa using hs⟩,hd⟩,?_⟩;have e:=r.length;simp only[zw]at e;lia
theorem Inv.tuple(I:Inv X pins σ H s)(h:bZ X.K H a xs):∃its:List aa,Vals xs its/\IsTup s.heap a its.toArray/\xs.length<=sizeLine:=by obtain⟨its,r,p,z⟩:=I.nN h;exact⟨its,r,p.tup,z⟩
theorem Inv.jQ(I:Inv X pins σ H s)(h:cN X.K H a xs)(h':cN X.K H a ys):xs=ys:=by
 obtain⟨its,r,⟨o,n,e,_,_,d⟩,_⟩:=I.list h;obtain⟨its',r',⟨o',n',e',_,_,d'⟩,_⟩:=I.list h';rw[e]at e';cases e';rw[d]at d';injection d' with d1 _;have:its=its':=by simpa using ku Array.toList d1
 subst this;exact r.inj r'
theorem Inv.fC(I:Inv X pins σ H s)(h:bZ X.K H a xs)(h':bZ X.K H a ys):xs=ys:=by
 obtain⟨its,r,⟨o,e,_,n,d⟩,_⟩:=I.tuple h;obtain⟨its',r',⟨o',e',_,n',d'⟩,_⟩:=I.tuple h';rw[e]at e';cases e';rw[d]at d';injection d' with d1 _;have:its=its':=by simpa using ku Array.toList d1
 subst this;exact r.inj r'
end
noncomputable abbrev Cx.i9(X:Cx)(E:aa->af->Prop):Cx:={X with xe:=E}
noncomputable abbrev Cx.yk(X:Cx):Cx:=X.i9 λ_ _=>False
theorem Cx.Ok.i9{X:Cx}(ok:X.Ok)(E:aa->af->Prop):(X.i9 E).Ok:=
 ⟨ok.mod,ok.kind,ok.glob,ok.blt,ok.above,ok.inj,ok.has,ok.zC,ok.hd,ok.frames,ok.stk,ok.Em,ok.bs,ok.vt,ok.nL,ok.nM,ok.iE,ok.yi⟩
theorem Cx.Ok.eZ{X:Cx}{E:aa->af->Prop}(ok:(X.i9 E).Ok):X.Ok:=
 ⟨ok.mod,ok.kind,ok.glob,ok.blt,ok.above,ok.inj,ok.has,ok.zC,ok.hd,ok.frames,ok.stk,ok.Em,ok.bs,ok.vt,ok.nL,ok.nM,ok.iE,ok.yi⟩
section
variable{X:Cx}{pins:List (ah×Obj)}{σ:St}{H:Hp}{s:af}{E:aa->af->Prop}
theorem Inv.i9(I:Inv X pins σ H s)(E:aa->af->Prop):Inv (X.i9 E) pins σ H s:=⟨I.ok.i9 E,I.os,I.bare,I.base,I.loc,I.cell,I.free,I.fO,I.pin,I.hok,I.len⟩
theorem Inv.eZ(I:Inv (X.i9 E) pins σ H s):Inv X pins σ H s:=⟨I.ok.eZ,I.os,I.bare,I.base,I.loc,I.cell,I.free,I.fO,I.pin,I.hok,I.len⟩
theorem SP.eZ{D:Ends}{f:Flow}{s':af}(h:SP (X.i9 E) pins D f s'):SP X pins D f s':=by
 cases f with|next=>obtain⟨σ',H',I,q⟩:=h;exact⟨σ',H',I.eZ,q⟩|brk=>obtain⟨σ',H',I,q⟩:=h;exact⟨σ',H',I.eZ,q⟩|cont=>obtain⟨σ',H',I,q⟩:=h;exact⟨σ',H',I.eZ,q⟩|ret u=>obtain⟨v,σ',H',I,r,q⟩:=h;exact⟨v,σ',H',I.eZ,r,q⟩
theorem kE.yk{st:List aq}{t:TS}(h:kE X.yk st t):kE X st t:=λpins s σ H D I hw=>
 nB (h pins s σ H D (I.i9 _) hw) (λ_ _ q=>q.eZ) λ_ _ z=>False.elim z
end
section
variable{X:Cx}{st:aq}{rest:List aq}{t u:TS}{e:ao}{te:TE}{pos:Pos}
noncomputable def tN:TS:=λD σ H=>D.nx σ H
noncomputable def GX(t u:TS):TS:=λD σ H=>t {D with nx:=u D} σ H
theorem R3:kE X [] tN:=λ_ _ σ H _ I h=>wpAny_execs_nil ⟨σ,H,I,h⟩
theorem R4(h1:PS X st t)(h2:kE X rest u):kE X (st::rest) (GX t u):=by
 intro pins s σ H D I h;refine wpAny_execs_cons (bG (h1 pins s σ H {D with nx:=u D} I h) λf s1 q=>?_);cases f with
 |next=>
  obtain⟨σ',H',I',q⟩:=q;exact h2 pins s1 σ' H' D I' q
 |ret v=>exact q
 |brk=>exact q
 |cont=>exact q
noncomputable def R5:TS:=λD σ H=>D.bk σ H
noncomputable def zK:TS:=λD σ H=>D.ct σ H
theorem R6:PS X (.Pass pos) tN:=λ_ _ σ H _ I h=>wpAny_Pass ⟨σ,H,I,h⟩
theorem R7:PS X (.Break pos) R5:=λ_ _ σ H _ I h=>wpAny_Break ⟨σ,H,I,h⟩
theorem R8:PS X (.Continue pos) zK:=λ_ _ σ H _ I h=>wpAny_Continue ⟨σ,H,I,h⟩
theorem Inv.quiet{pins:List (ah×Obj)}{σ:St}{H:Hp}{s:af}(I:Inv X pins σ H s):interactive X.env=false:=by simp[interactive,I.ok.kind]
noncomputable def zL(te:TE):TS:=λD σ H=>te σ H λ_ H1=>D.nx σ H1
theorem R9(he:PE X e te)(hs:autoParam (swapsWith e aC pos.line X.env=pure false) L2.aR._auto_1):PS X (.Expr e pos) (zL te):=by intro pins s σ H D I h;exact wpAny_Expr_any (bG (he pins s σ H _ I h) λv s1 z9=>z9.el λx H1 I1 r1 q1=>⟨σ,H1,I1,q1⟩) I.quiet hs
noncomputable def GY(te:TE):TS:=λD σ H=>te σ H D.rt
theorem Sa(he:PE X e te):PS X (.Return (aB e) pos) (GY te):=by intro pins s σ H D I h;exact wpAny_Return_some (bG (he pins s σ H _ I h) λv s1 z9=>z9.el λx H1 I1 r1 q1=>⟨x,σ,H1,I1,r1,q1⟩)
noncomputable def zM:TS:=λD _ H=>D.rt .aI H
theorem Sb:PS X (.Return aC pos) zM:=λ_ _ σ H _ I h=>wpAny_Return_none ⟨.aI,σ,H,I,rfl,h⟩
noncomputable def GZ(c:TT)(t u:TS):TS:=λD σ H=>c σ H λb H1=>if b=true then t D σ H1 else u D σ H1
theorem zN{c:ao}{a b:List aq}{tc:TT}(hc:PT X c tc)(ha:kE X a t)(hb:kE X b u):PS X (.If c a b pos) (GZ tc t u):=by
 intro pins s σ H D I h;refine wpAny_If (bG (hc pins s σ H _ I h) λd s1 z9=>z9.el λH1 I1 q1=>?_);cases d with|true=>exact ha pins s1 σ H1 D I1 q1|false=>exact hb pins s1 σ H1 D I1 q1
noncomputable def Se:TS:=λ_ _ _=>False
theorem Sf:PS X st Se:=λ_ _ _ _ _ _ h=>h.elim
end
noncomputable abbrev TG:=V->St->Hp->(St->Hp->Prop)->Prop
noncomputable abbrev qL:=List V->St->Hp->(St->Hp->Prop)->Prop
noncomputable def PG(X:Cx)(target:ao)(t:TG):Prop:=
 ∀(pins:List (ah×Obj))(s:af)(σ:St)(H:Hp)(v:V)(u:aa)(Q:St->Hp->Prop),Inv X pins σ H s->RelV v u->t v σ H Q->
  wpAny (model X.prog X.w) X.A (assign target X.env u) (λ_ s'=>∃σ' H',Inv X pins σ' H' s'/\Q σ' H') X.xe s
noncomputable def yl(X:Cx)(ts:List ao)(t:qL):Prop:=
 ∀(pins:List (ah×Obj))(s:af)(σ:St)(H:Hp)(vs:List V)(us:List aa)(Q:St->Hp->Prop),Inv X pins σ H s->Vals vs us->t vs σ H Q->
  wpAny (model X.prog X.w) X.A (assignInOrder ((assignEach ts X.env).map (·.2)) us) (λ_ s'=>∃σ' H',Inv X pins σ' H' s'/\Q σ' H') X.xe s
noncomputable abbrev vB:=V->V->V->Hp->(Hp->Prop)->Prop
noncomputable def jR(X:Cx)(t:vB):Prop:=
 ∀(pins:List (ah×Obj))(s:af)(σ:St)(H:Hp)(o i v:V)(ov iv u:aa)(Q:Hp->Prop),Inv X pins σ H s->RelV o ov->RelV i iv->RelV v u->t o i v H Q->
  wpAny (model X.prog X.w) X.A (setItem ov iv u) (λ_ s'=>∃H',Inv X pins σ H' s'/\Q H') X.xe s
noncomputable abbrev Ep:=V->V->Hp->VK->Prop
noncomputable def G0(X:Cx)(op:Operator)(t:Ep):Prop:=
 ∀(pins:List (ah×Obj))(s:af)(σ:St)(H:Hp)(x y:V)(v u:aa)(Q:VK),Inv X pins σ H s->RelV x v->RelV y u->t x y H Q->
  wpAny (model X.prog X.w) X.A (inplaceOp op v u) (EP X pins σ Q) X.xe s
section
variable{X:Cx}{pos:Pos}
noncomputable def jS(i:Nat):TG:=λv σ H Q=>Q (σ.set i (aB v)) H
theorem LV{i:Nat}{x:Str}(hN:X.N.Nodup)(hi:X.N[i]?=aB x)(hx:Loc X.env.scope x)(hf:autoParam (X.fn x=true\/X.env.scope.names.lookup x=aB .local) L2.aF._auto_1):PG X (.Name x pos) (jS i):=by intro pins s σ H v u Q I r h;exact wpAny_assign_Name (GP I hN hi hx r (λs' I'=>⟨_,H,I',h⟩) hf)
noncomputable def G4:qL:=λvs σ H Q=>vs=[]/\Q σ H
noncomputable def zO(t:TG)(u:qL):qL:=λvs σ H Q=>∃v r,vs=v::r/\t v σ H λσ' H'=>u r σ' H' Q
theorem LW:yl X [] G4:=by intro pins s σ H vs us Q I r h;obtain⟨e,h⟩:=h;subst e;cases r;exact assignInOrder_nil ⟨σ,H,I,h⟩
theorem G5{e:ao}{es:List ao}{t:TG}{u:qL}(h1:PG X e t)(h2:yl X es u)
 (hs:autoParam ((assignEach (e::es) X.env).map (·.2)=assign e X.env:: (assignEach es X.env).map (·.2)) L2.aR._auto_1):yl X (e::es) (zO t u):=by
 intro pins s σ H vs us Q I r h;obtain⟨v,vr,e1,h⟩:=h;subst e1;cases r with
 |cons r rr=>
  rw[hs];refine assignInOrder_cons (bG (h1 pins s σ H _ _ _ I r h) λ_ s1 dU=>?_);obtain⟨σ1,H1,I1,q1⟩:=dU;exact h2 pins s1 σ1 H1 _ _ Q I1 rr q1
noncomputable def G6(K:aO)(n:Nat)(t:qL):TG:=λv σ H Q=>∃a xs,v=.ref a/\bZ K H a xs/\xs.length=n/\t xs σ H Q
theorem LX{es:List ao}{k:Nat}{t:qL}{n:Nat}(hc:X.calm)(h:yl X es t)
 (hn:autoParam ((assignEach es X.env).length=n) L2.aR._auto_1) (hst:autoParam ((assignEach es X.env).findIdx? (·.1)=aC) L2.aR._auto_1):PG X (.Tuple es k pos) (G6 X.K n t):=by
 intro pins s σ H v u Q I r hw;obtain⟨a,xs,e1,hq,hl,hw⟩:=hw;subst e1;cases r;obtain⟨its,rv,ht,hz⟩:=I.tuple hq;refine assign_Tuple_tuple (I.ok.hd hc) ht (by simp[hn,<-hl,rv.length]) hst λh' hx=>?_;have I1:Inv X pins σ H {s with heap:=h'}:=I.kept (t':=s.toks) λb o e=>hx b o (fB (cP e)) e;exact h pins _ σ H xs _ Q I1 (by simpa using rv) hw
noncomputable def G7(to ti:TE)(t:vB):TG:=λv σ H Q=>to σ H λo H1=>ti σ H1 λi H2=>t o i v H2 λH3=>Q σ H3
theorem Sg{o i:ao}{to ti:TE}{t:vB}(ho:PE X o to)(hi:PE X i ti)(hs:jR X t)
 (ha:∀v,assign (.Subscript o i pos) X.env v=(do
   let ov <-holding [v] (eval o X.env);let iv <-holding [v,ov] (eval i X.env)
   standAt pos
   holding [v,ov,iv] (setItem ov iv v)
   release [v,ov,iv] []):=by intro _;rfl):PG X (.Subscript o i pos) (G7 to ti t):=by
 intro pins s σ H v u Q I r h;rw[ha];refine aJ (nA (bG (ho pins s σ H _ I h) λov s1 z9=>z9.el λx H1 I1 r1 q1=>?_));refine aJ (nA (bG (hi pins s1 σ H1 _ I1 q1) λiv s2 z9=>z9.el λy H2 I2 r2 q2=>?_));refine aJ (Dt (aJ (nA (bG (hs pins s2 σ H2 x y v ov iv u _ I2 r1 r2 r q2) λ_ s3 dU=>?_))));obtain⟨H3,I3,q3⟩:=dU;exact wpAny_release ⟨σ,H3,I3,q3⟩
noncomputable def vC(te:TE)(g:TG):TS:=λD σ H=>te σ H λx H1=>g x σ H1 D.nx
theorem LY{tg e:ao}{te:TE}{g:TG}(he:PE X e te)(hg:PG X tg g)(hs:autoParam (swapsWithSole [tg] e pos.line X.env=pure false) L2.aR._auto_1)(hw:autoParam (swappedStores [tg] e X.env=pure aC) L2.aR._auto_1)
 (h1:autoParam ((assignEach [tg] X.env).map (·.2)=[assign tg X.env]) L2.aR._auto_1):PS X (.Assign [tg] e pos) (vC te g):=by
 intro pins s σ H D I h;refine wpAny_Assign_stores (bG (he pins s σ H _ I h) λv s1 z9=>z9.el λx H1 I1 r1 q1=>?_) hs hw;rw[h1];exact bG (hg pins s1 σ H1 x v _ I1 r1 q1) λ_ s2 q=>q
theorem Sh{i:Nat}{x:Str}{e:ao}{te:TE}{pos':Pos}(hN:X.N.Nodup)(hi:X.N[i]?=aB x)(hx:Loc X.env.scope x)(he:PE X e te)(hs:autoParam (swapsWith e (aB (.Name x pos')) pos.line X.env=pure false) L2.aR._auto_1)(hf:autoParam (X.fn x=true\/X.env.scope.names.lookup x=aB .local) L2.aF._auto_1) :
 PS X (.Assign [.Name x pos'] e pos) (vC te (jS i)):=by
 intro pins s σ H D I h;refine wpAny_Assign_Name (bG (he pins s σ H _ I h) λv s1 z9=>z9.el λy H1 I1 r1 q1=>?_) hs;exact GP I1 hN hi hx r1 (λs2 I2=>⟨_,H1,I2,q1⟩) hf
noncomputable def G8(i:Nat)(te:TE)(ti:Ep):TS:=λD σ H=>∃x,σ[i]?=aB (aB x)/\te σ H λy H1=>ti x y H1 λz H2=>D.nx (σ.set i (aB z)) H2
theorem Si{i:Nat}{x:Str}{e:ao}{te:TE}{op:Operator}{ti:Ep}{pos':Pos}(hN:X.N.Nodup)(hi:X.N[i]?=aB x)(hx:Loc X.env.scope x)(he:PE X e te)(ho:G0 X op ti)(hf:autoParam (X.fn x=true\/X.env.scope.names.lookup x=aB .local) L2.aF._auto_1) :
 PS X (.AugAssign (.Name x pos') op e pos) (G8 i te ti):=by
 intro pins s σ H D I h;obtain⟨v,e1,h⟩:=h;obtain⟨m,hn,hl⟩:=I.loc;have vis:yh X.env.scope x:=by rcases hx with k|k;exact .inl k;exact .inr (.inl k)
 obtain⟨u,r,l⟩:=hl i x v hi e1 vis;refine wpAny_AugAssign_Name ?_;have go:wpAny (model X.prog X.w) X.A (eval e X.env) (λw s₂=>wpAny (model X.prog X.w) X.A (inplaceOp op u w) (λr s₃=>wpAny (model X.prog X.w) X.A (storeName X.env x r) (λ_=>SP X pins D .next) X.xe s₃) X.xe s₂) X.xe s:=by refine bG (he pins s σ H _ I h) λw s1 z9=>z9.el λy H1 I1 r1 q1=>?_;refine bG (ho pins s1 σ H1 v y u w _ I1 r r1 q1) λz s2 z9=>z9.el λzv H2 I2 r2 q2=>?_;exact GP I2 hN hi hx r2 (λs3 I3=>⟨_,H2,I3,q2⟩) hf
 rcases l with⟨hk,hm⟩|⟨hk,c,hc,hcell⟩;exact wpAny_loadName_local I.ok.kind hk hn hm go;rcases hk with hk|hk;exact wpAny_loadName_cell I.ok.kind hk hc hcell go;rcases hx with k|k;have:X.env.scope.names.lookup x=aB .free:=hk;rw[k]at this;cases this;have:X.env.scope.names.lookup x=aB .free:=hk;rw[k]at this;cases this
noncomputable def LZ(f:Int->Int->Int):Ep:=λx y H Q=>∃i j,x=.int i/\y=.int j/\Q (.int (f i j)) H
theorem Sj:G0 X .Add (LZ λi j=>i+j):=by intro pins s σ H x y v u Q I r1 r2 h;obtain⟨i,j,e1,e2,q⟩:=h;subst e1;subst e2;obtain⟨t,rfl⟩:=r1;obtain⟨t',rfl⟩:=r2;exact iadd_int ⟨.int _,H,I.tok _,⟨_,rfl⟩,q⟩
end
section
variable{X:Cx}{pos:Pos}
noncomputable def Sk(c:TT)(tb:TS):TS:=λD σ H=>∃W:Nat->St->Hp->Prop,(∃m,W m σ H)/\∀m σ H,W m σ H->
 c σ H λb H1=>if b=true then ∃N:St->Hp->Prop,(∀σ' H',N σ' H'->∃m',m'<m/\W m' σ' H')/\tb {D with nx:=N,ct:=N,bk:=D.nx} σ H1 else D.nx σ H1
theorem Sl{c:ao}{body:List aq}{tc:TT}{tb:TS}(hp:PassesOwn (model X.prog X.w) X.A X.env X.xe)(hc:PT X c tc)(hb:kE X body tb):PS X (.While c body [] pos) (Sk tc tb):=by
 intro pins s σ H D I h;obtain⟨W,⟨m0,w0⟩,turn⟩:=h;refine wpAny_While (codeAny_whileLoop (λn s'=>∃σ' H',Inv X pins σ' H' s'/\W n σ' H') ?_ m0 ⟨σ,H,I,w0⟩);rintro n s1 ⟨σ1,H1,I1,w1⟩;refine u5 hp (bG (hc pins s1 σ1 H1 _ I1 (turn n σ1 H1 w1)) λb s2 z9=>z9.el λH2 I2 q2=>?_);cases b with
 |true=>
  obtain⟨N,hN,q2⟩:=q2;rw[if_pos rfl];refine u5 hp (bG (hb pins s2 σ1 H2 _ I2 q2) λf s3 q3=>?_);cases f with
  |next=>
   obtain⟨σ3,H3,I3,n3⟩:=q3;obtain⟨m',hm,w3⟩:=hN σ3 H3 n3;exact⟨m',hm,σ3,H3,I3,w3⟩
  |cont=>
   obtain⟨σ3,H3,I3,n3⟩:=q3;obtain⟨m',hm,w3⟩:=hN σ3 H3 n3;exact⟨m',hm,σ3,H3,I3,w3⟩
  |brk=>exact q3
  |ret v=>exact q3
 |false=>
  rw[if_neg nJ];exact wpAny_execs_nil ⟨σ1,H2,I2,q2⟩
end
set_option genInjectivity false in
structure It where
 go:Nat->Hp->Prop
 ym:Nat->Hp->V->Hp->Prop
 stop:Nat->Hp->Prop
noncomputable def fT(X:Cx)(pins:List (ah×Obj))(H:Hp)(b:ah):Prop:=
 H b=aC/\b≠X.env.locals/\b∉X.fs/\(b∈X.ex\/X.s₀.heap.objs.size<=b)/\(∀x c,X.env.cells.lookup x=aB c->c≠b)/\∀p∈X.pn++pins,p.1≠b
theorem Inv.jT{X:Cx}{pins:List (ah×Obj)}{σ:St}{H H':Hp}{s:af}{b:ah}(I:Inv X pins σ H s)(hb:s.heap.objs.size<=b)(hn:H' b=aC):fT X pins H' b:=by refine⟨hn,mj (dS I.lt hb),I.GN hb,.inr (iY I.sz hb),λx c e z=>?_,λp hp z=>?_⟩;obtain⟨v,q⟩:=I.cell x c e;exact absurd (dS q.lt (by rw[z];exact hb)) (nj _);exact absurd (dS (cP (I.pin p hp).1) (by rw[z];exact hb)) (nj _)
structure Turn(P:ai)(w:aj)(K:aO)(tg:ao)(J:It)(fp:List ah)(it:ah)(tn:Nat->az->Prop):Prop where
 mem:it∈fp
 obj:∀i h,tn i h->∀b∈fp,∃o,h.get? b=aB o/\∀v,o.data≠.cell v
 keep:∀i h h',tn i h->(∀b∈fp,∀o,h.get? b=aB o->h'.get? b=aB o)->tn i h'
 item:∀(X:Cx),X.prog=P->X.w=w->X.K=K->X.calm=true->∀(i:Nat)(pins:List (ah×Obj))(s:af)(σ:St)(H:Hp)(E:aa->af->Prop),Inv X pins σ H s->(∀b∈fp,fT X pins H b)->tn i s.heap->J.go i H->
  wpAny (model P w) X.A (pyNext (.ref it)) (λr s1=>∃u,r=aB u/\
   wpAny (model P w) X.A (letOwnedTupleGo tg (.ref it) u) (λ_ s2=>∃x H',Inv X pins σ H' s2/\RelV x u/\J.ym i H x H'/\tn (i+1) s2.heap/\∀b∈fp,H' b=aC) E s1) E s
 done:∀(X:Cx),X.prog=P->X.w=w->X.K=K->X.calm=true->∀(i:Nat)(pins:List (ah×Obj))(s:af)(σ:St)(H:Hp)(E:aa->af->Prop),Inv X pins σ H s->(∀b∈fp,fT X pins H b)->tn i s.heap->J.stop i H->
  wpAny (model P w) X.A (pyNext (.ref it)) (λr s1=>r=aC/\Inv X pins σ H s1) E s
 self:∀(A:ak)(i:Nat)(s:af)(Q:aa->af->Prop)(E:aa->af->Prop),tn i s.heap->Q (.ref it) s->wpAny (model P w) A (pyIter (.ref it)) Q E s
noncomputable abbrev TI:=St->Hp->(It->Hp->Prop)->Prop
noncomputable def Er(X:Cx)(pins:List (ah×Obj))(σ:St)(tg:ao)(R:It->Hp->Prop)(itv:aa)(s2:af):Prop:=
 ∃(it:ah) (fp:List ah) (tn:Nat->az->Prop) (J:It) (H':Hp),itv=.ref it/\Inv X pins σ H' s2/\Turn X.prog X.w X.K tg J fp it tn/\tn 0 s2.heap/\(∀b∈fp,fT X pins H' b)/\R J H'
noncomputable def PI(X:Cx)(tg iter:ao)(wi:TI):Prop:=
 ∀(pins:List (ah×Obj))(s:af)(σ:St)(H:Hp)(R:It->Hp->Prop),Inv X pins σ H s->wi σ H R->
  wpAny (model X.prog X.w) X.A (eval iter X.env) (λv s1=>wpAny (model X.prog X.w) X.A (pyIter v) (Er X pins σ tg R) X.xe s1) X.xe s
theorem jU{M:Model}{A:ak}{E:aa->af->Prop}{s:af}{tg:ao}{it:ah}{u:aa}{o:Obj}{n:String}{vs:Array aa}{Q:Unit->af->Prop}(ho:s.heap.get? it=aB o)(hc:o.cls=.type n)(hd:o.data=.fields vs)
 (hn:["enumerate","zip","dict_itemiterator","dict_reverseitemiterator","odict_iterator","itertools.zip_longest","itertools.pairwise"].contains n=false) (hQ:Q () s):wpAny M A (letOwnedTupleGo tg (.ref it) u) Q E s:=by
 unfold letOwnedTupleGo;cases tg<;>first
  |exact bg hQ
  |(cases u<;>first
     |exact bg hQ
     |(refine aJ (wpAny_load ho ?_)
       rw[hc,hd];show wpAny M A (if(["enumerate","zip","dict_itemiterator","dict_reverseitemiterator","odict_iterator","itertools.zip_longest","itertools.pairwise"].contains n&&vs[0]? == aB (rawInt _))=true then _ else _) Q E s;rw[if_neg (by intro h;rw[hn,xT]at h;cases h)];exact bg hQ))
noncomputable def Es(K:aO)(a:ah):It:=
 ⟨λi H=>∃xs x,cN K H a xs/\xs[i]?=aB x,λi H x H'=>H'=H/\∀xs,cN K H a xs->xs[i]?=aB x,λi H=>∃xs,cN K H a xs/\xs.length<=i⟩
noncomputable def G9(K:aO)(a:ah):It:=
 ⟨λi H=>∃xs x,bZ K H a xs/\xs[i]?=aB x,λi H x H'=>H'=H/\∀xs,bZ K H a xs->xs[i]?=aB x,λi H=>∃xs,bZ K H a xs/\xs.length<=i⟩
noncomputable def Et(lo:Int)(n:Nat):It:=⟨λi _=>i<n,λi H x H'=>H'=H/\x=.int (lo+i),λi _=>n<=i⟩
theorem Sm{P:ai}{w:aj}{K:aO}{tg:ao}(a it:ah):Turn P w K tg (Es K a) [it] it (λi h=>h.IsListIter it a i)where
 mem:=by simp
 obj:=λi h st b hb=>by
  have e:b=it:=by simpa using hb
  subst e;obtain⟨o,e,c,d⟩:=st;exact⟨o,e,λv z=>by rw[d]at z;cases z⟩
 keep:=λi h h' st k=>st.at λo e=>k it (by simp) o e
 item:=by intro X hP hw hK hc i pins s σ H E I hf st hg;subst hP hw hK;obtain⟨xs,x,hq,hx⟩:=hg;obtain⟨its,rv,p,hz⟩:=I.list hq;obtain⟨u,hu,ru⟩:=rv.get hx;obtain⟨f0,f1,f2,f3,f4,f5⟩:=hf it (by simp);refine wpAny_pyNext_list_item st p.isList (x:=u) (by simpa using hu) λh' st' sb=>?_;have I1:Inv X pins σ H {s with heap:=h'}:=I.turned (t':=s.toks) (λb o hb e=>(sb.2 b hb).trans e) f0 f1 f3 f4 f5;obtain⟨o,e,c,d⟩:=id st';exact⟨u,rfl,jU (s:={s with heap:=h'}) e c d (by decide) ⟨x,H,I1,ru,⟨rfl,λys hy=>by rw[I.jQ hy hq];exact hx⟩,st',λb hb=>(hf b hb).1⟩⟩
 done:=by intro X hP hw hK hc i pins s σ H E I hf st hg;subst hP hw hK;obtain⟨xs,hq,hx⟩:=hg;obtain⟨its,rv,p,hz⟩:=I.list hq;obtain⟨f0,f1,f2,f3,f4,f5⟩:=hf it (by simp);have hl:=rv.length;exact wpAny_pyNext_list_end (I.ok.hd hc) st p.isList (by simp;lia) λh' eb=>⟨rfl,I.turned (t':=s.toks) (λb o hb e=>eb b o hb e) f0 f1 f3 f4 f5⟩
 self:=λ_ _ _ _ _ st h=>wpAny_pyIter_listiter st h
theorem Sn{P:ai}{w:aj}{K:aO}{tg:ao}(a it:ah):Turn P w K tg (G9 K a) [it] it (λi h=>h.IsTupleIter it a i)where
 mem:=by simp
 obj:=λi h st b hb=>by
  have e:b=it:=by simpa using hb
  subst e;obtain⟨o,e,c,d⟩:=st;exact⟨o,e,λv z=>by rw[d]at z;cases z⟩
 keep:=λi h h' st k=>st.at λo e=>k it (by simp) o e
 item:=by intro X hP hw hK hc i pins s σ H E I hf st hg;subst hP hw hK;obtain⟨xs,x,hq,hx⟩:=hg;obtain⟨its,rv,p,hz⟩:=I.tuple hq;obtain⟨u,hu,ru⟩:=rv.get hx;obtain⟨f0,f1,f2,f3,f4,f5⟩:=hf it (by simp);refine wpAny_pyNext_tuple_item st (show s.heap.IsTuple a its.toArray from p) (x:=u) (by simpa using hu) λh' st' sb=>?_;have I1:Inv X pins σ H {s with heap:=h'}:=I.turned (t':=s.toks) (λb o hb e=>(sb.2 b hb).trans e) f0 f1 f3 f4 f5;obtain⟨o,e,c,d⟩:=id st';exact⟨u,rfl,jU (s:={s with heap:=h'}) e c d (by decide) ⟨x,H,I1,ru,⟨rfl,λys hy=>by rw[I.fC hy hq];exact hx⟩,st',λb hb=>(hf b hb).1⟩⟩
 done:=by intro X hP hw hK hc i pins s σ H E I hf st hg;subst hP hw hK;obtain⟨xs,hq,hx⟩:=hg;obtain⟨its,rv,p,hz⟩:=I.tuple hq;obtain⟨f0,f1,f2,f3,f4,f5⟩:=hf it (by simp);have hl:=rv.length;exact wpAny_pyNext_tuple_end (I.ok.hd hc) st (show s.heap.IsTuple a its.toArray from p) (by simp;lia) λh' eb=>⟨rfl,I.turned (t':=s.toks) (λb o hb e=>eb b o hb e) f0 f1 f3 f4 f5⟩
 self:=λ_ _ _ _ _ st h=>wpAny_pyIter_tupleiter st h
theorem So{P:ai}{w:aj}{K:aO}{tg:ao}(it:ah)(lo:Int)(n:Nat):Turn P w K tg (Et lo n) [it] it (λi h=>IsRangeIter h it (lo+ (i:Nat)*1) ((n:Int)- (i:Nat)) 1)where
 mem:=by simp
 obj:=λi h st b hb=>by
  have e:b=it:=by simpa using hb
  subst e;exact⟨_,st,λv z=>by
   have z':Data.fields _=Data.cell v:=z;cases z'⟩
 keep:=λi h h' st k=>k it (by simp) _ st
 item:=by intro X hP hw hK hc i pins s σ H E I hf st hg;subst hP hw hK;obtain⟨f0,f1,f2,f3,f4,f5⟩:=hf it (by simp);have W:=Walks.range (prog:=X.prog) (w:=X.w) (I.ok.hd hc) it lo 1 n;refine W.item i s _ _ hg st λv h' tk hv st' kk=>?_;obtain⟨t,rfl⟩:=hv;have I1:Inv X pins σ H {s with heap:=h',toks:=tk}:=I.turned (λb o hb e=>kk b o (by simpa using hb) e) f0 f1 f3 f4 f5;refine⟨_,rfl,jU (s:={s with heap:=h',toks:=tk}) (n:="range_iterator") st' rfl rfl (by decide) ⟨.int (lo+i),H,I1,⟨t,?_⟩,⟨rfl,rfl⟩,st',λb hb=>(hf b hb).1⟩⟩;rw[Int.mul_one]
 done:=by intro X hP hw hK hc i pins s σ H E I hf st hg;subst hP hw hK;obtain⟨f0,f1,f2,f3,f4,f5⟩:=hf it (by simp);exact wpAny_pyNext_range_end (I.ok.hd hc) st (by have:n<=i:=hg;lia) λh' eb=>⟨rfl,I.turned (t':=s.toks) (λb o hb e=>eb b o hb e) f0 f1 f3 f4 f5⟩
 self:=λ_ _ _ _ _ st h=>wpAny_pyIter_rangeiter st h
section
variable{X:Cx}{tg:ao}
noncomputable def zP(K:aO)(tl:TE):TI:=λσ H R=>tl σ H λx H1=>∃a,x=.ref a/\(∃xs,cN K H1 a xs)/\R (Es K a) H1
noncomputable def Hf(K:aO)(tl:TE):TI:=λσ H R=>tl σ H λx H1=>∃a,x=.ref a/\(∃xs,bZ K H1 a xs)/\R (G9 K a) H1
theorem L4{l:ao}{tl:TE}(hl:PE X l tl):PI X tg l (zP X.K tl):=by
 intro pins s σ H R I h;refine bG (hl pins s σ H _ I h) λv s1 z9=>z9.el λx H1 I1 r1 q1=>?_;obtain⟨a,e,⟨xs,hq⟩,q⟩:=q1;subst e;cases r1;obtain⟨its,rv,p,hz⟩:=I1.list hq;refine xH p.isList ?_;refine⟨s1.heap.objs.size,[s1.heap.objs.size],_,_,H1,rfl,I1.kept (t':=s1.toks) λb o e=>dH _ e,Sm a _,⟨_,gh _ rfl,rfl,rfl⟩,λb hb=>?_,q⟩;have e:b=s1.heap.objs.size:=by simpa using hb
 subst e;exact I1.jT (bq _) (I1.hok.fresh (bq _))
theorem Sq{l:ao}{tl:TE}(hl:PE X l tl):PI X tg l (Hf X.K tl):=by
 intro pins s σ H R I h;refine bG (hl pins s σ H _ I h) λv s1 z9=>z9.el λx H1 I1 r1 q1=>?_;obtain⟨a,e,⟨xs,hq⟩,q⟩:=q1;subst e;cases r1;obtain⟨its,rv,p,hz⟩:=I1.tuple hq;refine uY (show s1.heap.IsTuple a its.toArray from p) ?_;refine⟨s1.heap.objs.size,[s1.heap.objs.size],_,_,H1,rfl,I1.kept (t':=s1.toks) λb o e=>dH _ e,Sn a _,⟨_,gh _ rfl,rfl,rfl⟩,λb hb=>?_,q⟩;have e:b=s1.heap.objs.size:=by simpa using hb
 subst e;exact I1.jT (bq _) (I1.hok.fresh (bq _))
theorem Ss{pins:List (ah×Obj)}{σ:St}{H:Hp}{s:af}{R:It->Hp->Prop}{E:aa->af->Prop}{lo hi:Int}{t u v:Tok}{tk:Nat}(I:Inv X pins σ H s)(h1:-(2 ^ 62)<=lo)(h2:lo<2 ^ 62)(h3:-(2 ^ 62)<=hi)(h4:hi<2 ^ 62)
 (q:R (Et lo (hi-lo).toNat) H):wpAny (model X.prog X.w) X.A (pyIter (.ref s.heap.objs.size)) (Er X pins σ tg R) E {s with heap:=s.heap.push {cls:=.type "range",data:=.fields #[.int lo t,.int hi u,.int 1 v]},toks:=tk}:=by
 refine wpAny_pyIter_range (IsRange.new ..) (small_one h1 h2 h3 h4) ?_;have I1:Inv X pins σ H {s with heap:=s.heap.push {cls:=.type "range",data:=.fields #[.int lo t,.int hi u,.int 1 v]},toks:=tk}:=I.kept λb o e=>dH _ e;refine⟨(s.heap.push {cls:=.type "range",data:=.fields #[.int lo t,.int hi u,.int 1 v]}).objs.size,[(s.heap.push {cls:=.type "range",data:=.fields #[.int lo t,.int hi u,.int 1 v]}).objs.size],_,_,H,rfl,
  I1.kept (t':=tk) λb o e=>dH _ e,So _ lo (hi-lo).toNat,?_,λb hb=>?_,q⟩
 have e1:lo+ ((0:Nat):Int)*1=lo:=by simp
 have e2:(((hi-lo).toNat:Nat):Int)- ((0:Nat):Int)=Builtin.Range.rangeSize lo hi 1:=by rw[rangeSize_one];split<;>lia
 show IsRangeIter _ _ (lo+ ((0:Nat):Int)*1) ((((hi-lo).toNat:Nat):Int)- ((0:Nat):Int)) 1;rw[e1,e2];exact gh _ rfl;have e:b=(s.heap.push {cls:=.type "range",data:=.fields #[.int lo t,.int hi u,.int 1 v]}).objs.size:=by simpa using hb
 subst e;exact I1.jT (bq _) (I1.hok.fresh (bq _))
noncomputable def zQ(ta:TA):TI:=λσ H R=>ta σ H λvs H1=>∃j:Int,vs=[.int j]/\-(2 ^ 62)<=j/\j<2 ^ 62/\R (Et 0 j.toNat) H1
theorem Su{a:ao}{ta:TA}{p pos:Pos}(hg:Gl X "range")(hm:X.mg "range" = aC)(ha:PA X [a] ta)(hs:autoParam (starEach [a] X.env=[(false,eval a X.env)]) L2.aR._auto_1):PI X tg (.Call (.Name "range" p) [a] [] pos) (zQ ta):=by
 intro pins s σ H R I h;refine Call_ (vA I hg hm boot_range (zq (bG (ha pos pins s σ H _ I h) λus s1 z9=>z9.el λvs H1 I1 r1 q1=>?_) hs rfl));obtain⟨j,e,q1,q2,q⟩:=q1;subst e;cases r1 with
 |cons r rr=>
  cases rr;obtain⟨t,rfl⟩:=r;exact call_range_1 (Ss I1 (by lia) (by lia) q1 q2 (by simpa using q))
noncomputable def zR(wi:TI)(g:TG)(tb:TS):TS:=λD σ H=>wi σ H λJ H1=>∃W:Nat->Nat->St->Hp->Prop,(∃m,W 0 m σ H1)/\∀i m σ H,W i m σ H->
 (J.stop i H/\D.nx σ H)\/(J.go i H/\∃N:St->Hp->Prop,(∀σ' H',N σ' H'->∃m',m'<m/\W (i+1) m' σ' H')/\∀x H',J.ym i H x H'->g x σ H' λσ2 H2=>tb {D with nx:=N,ct:=N,bk:=D.nx} σ2 H2)
noncomputable def zS(fp:List ah)(h:az):List (ah×Obj):=fp.filterMap λb=>(h.get? b).map λo=>(b,o)
theorem Eu{fp:List ah}{h:az}{b:ah}{o:Obj}(hb:b∈fp)(e:h.get? b=aB o):(b,o)∈zS fp h:=List.mem_filterMap.mpr ⟨b,hb,by rw[e];rfl⟩
theorem Sv{fp:List ah}{h:az}{p:ah×Obj}(hp:p∈zS fp h):p.1∈fp/\h.get? p.1=aB p.2:=by
 obtain⟨b,hb,e⟩:=List.mem_filterMap.mp hp;cases q:h.get? b with
 |none=>rw[q]at e;cases e
 |some o=>
  rw[q]at e;have e':(b,o)=p:=jN e;subst e';exact⟨hb,q⟩
theorem Inv.pinned{pins:List (ah×Obj)}{σ:St}{H:Hp}{s:af}{fp:List ah}(I:Inv X pins σ H s)(hf:∀b∈fp,fT X pins H b)(ho:∀b∈fp,∃o,s.heap.get? b=aB o/\∀v,o.data≠.cell v):Inv X (pins++zS fp s.heap) σ H s:=
 I.lB λp hp=>(nh.mp hp).elim (λz=>I.pin p (l8 _ z)) λz=>by
  obtain⟨hb,e⟩:=Sv z;obtain⟨f0,f1,f2,_⟩:=hf p.1 hb;obtain⟨o,e',d⟩:=ho p.1 hb;rw[e]at e';cases e';exact⟨e,f0,f1,f2,d⟩
theorem Inv.gk{pins pl:List (ah×Obj)}{σ:St}{H:Hp}{s:af}(I:Inv X (pins++pl) σ H s):Inv X pins σ H s:=I.lB λp hp=>I.pin p (l8 _ (zf _ hp))
theorem Sw{iter:ao}{body:List aq}{wi:TI}{g:TG}{tb:TS}{pos:Pos}(hp:PassesOwn (model X.prog X.w) X.A X.env X.xe)(hc:X.calm)(hi:PI X tg iter wi)(hg:PG X tg g)(hb:kE X body tb)
 (hs:∀x,foldedSetIterable iter X.env x=pure x:=by intro _;rfl):PS X (.For tg iter body [] pos) (zR wi g tb):=by
 intro pins s σ H D I h;refine wpAny_For (bG (hi pins s σ H _ I h) λv s1 h1=>bG h1 λitv s2 h2=>?_) hs;obtain⟨it,fp,tn,J,H2,e,I2,T,st2,f2,W,⟨m0,w0⟩,turn⟩:=h2;subst e;have vD:∀{H':Hp},(∀b∈fp,H' b=aC)->∀b∈fp,fT X pins H' b:=λhn b hb=>⟨hn b hb,(f2 b hb).2⟩
 refine codeAny_forLoop_any (λn s'=>∃i σ' H',Inv X pins σ' H' s'/\tn i s'.heap/\(∀b∈fp,H' b=aC)/\W i n σ' H') ?_ m0 ⟨0,σ,H2,I2,st2,λb hb=>(f2 b hb).1,w0⟩;rintro n s3 ⟨i,σ3,H3,I3,st3,L6,w3⟩;rcases turn i n σ3 H3 w3 with⟨stop,qn⟩|⟨go,N,hN,step⟩
 .refine u5 hp (bG (T.done X rfl rfl rfl hc i pins s3 σ3 H3 X.xe I3 (vD L6) st3 stop) λr s4 dU=>?_)
  obtain⟨hr,I4⟩:=dU;subst hr;exact wpAny_execs_nil ⟨σ3,H3,I4,qn⟩
 .refine u5 hp (bG (T.item X rfl rfl rfl hc i pins s3 σ3 H3 X.xe I3 (vD L6) st3 go) λr s4 dU=>?_)
  obtain⟨u,hr,h4⟩:=dU;subst hr;refine u5 hp (bG h4 λ_ s5 dU=>?_);obtain⟨x,H5,I5,r5,y5,yo,Ew⟩:=dU;have Sx:=I5.pinned (vD Ew) (T.obj _ _ yo);refine u5 hp (bG (hg _ s5 σ3 H5 x u _ Sx r5 (step x H5 y5)) λ_ s6 dU=>?_);obtain⟨kL,H6,I6,q6⟩:=dU;refine u5 hp (bG (hb _ s6 kL H6 _ I6 q6) λf s7 q7=>?_);have again:∀{nO:St}{H7:Hp},Inv X (pins++zS fp s5.heap) nO H7 s7->N nO H7->∃m,m<n/\∃i σ' H',Inv X pins σ' H' s7/\tn i s7.heap/\(∀b∈fp,H' b=aC)/\W i m σ' H':=λ{nO H7} I7 n7=>by
   obtain⟨m',hm,w7⟩:=hN nO H7 n7;refine⟨m',hm,i+1,nO,H7,I7.gk,T.keep _ _ _ yo λb hb o e=>(I7.pin (b,o) (l8 _ (l8 _ (Eu hb e)))).1,λb hb=>?_,w7⟩;obtain⟨o,e,d⟩:=T.obj _ _ yo b hb;exact(I7.pin (b,o) (l8 _ (l8 _ (Eu hb e)))).2.1
  cases f with|next=>obtain⟨nO,H7,I7,n7⟩:=q7;exact again I7 n7|cont=>obtain⟨nO,H7,I7,n7⟩:=q7;exact again I7 n7|brk=>obtain⟨nO,H7,I7,q7⟩:=q7;exact⟨nO,H7,I7.gk,q7⟩|ret v=>obtain⟨x7,nO,H7,I7,r7,q7⟩:=q7;exact⟨x7,nO,H7,I7.gk,r7,q7⟩
end
noncomputable abbrev R2:=V->V->Hp->VK->Prop
noncomputable def dW(X:Cx)(f:aa->aa->Sem aa)(r:R2):Prop:=
 ∀(pins:List (ah×Obj))(s:af)(σ:St)(H:Hp)(x y:V)(v u:aa)(Q:VK),Inv X pins σ H s->RelV x v->RelV y u->r x y H Q->
  wpAny (model X.prog X.w) X.A (f v u) (EP X pins σ Q) X.xe s
noncomputable def Hg(X:Cx)(f:aa->Sem aa)(r:V->Hp->VK->Prop):Prop:=
 ∀(pins:List (ah×Obj))(s:af)(σ:St)(H:Hp)(x:V)(v:aa)(Q:VK),Inv X pins σ H s->RelV x v->r x H Q->
  wpAny (model X.prog X.w) X.A (f v) (EP X pins σ Q) X.xe s
noncomputable def bK(X:Cx)(f:aa)(r:List V->Hp->VK->Prop):Prop:=
 ∀(pins:List (ah×Obj))(s:af)(σ:St)(H:Hp)(xs:List V)(us:List aa)(Q:VK),Inv X pins σ H s->Vals xs us->r xs H Q->
  wpAny (model X.prog X.w) X.A (call f us) (EP X pins σ Q) X.xe s
noncomputable def Hh(X:Cx)(r:V->Hp->(Bool->Hp->Prop)->Prop):Prop:=
 ∀(pins:List (ah×Obj))(s:af)(σ:St)(H:Hp)(x:V)(v:aa)(Q:Bool->Hp->Prop),Inv X pins σ H s->RelV x v->r x H Q->
  wpAny (model X.prog X.w) X.A (truthy v) (TP X pins σ Q) X.xe s
noncomputable def Ex(r:R2)(ta tb:TE):TE:=λσ H Q=>ta σ H λx H1=>tb σ H1 λy H2=>r x y H2 Q
noncomputable def Sy(r:V->Hp->VK->Prop)(ta:TE):TE:=λσ H Q=>ta σ H λx H1=>r x H1 Q
noncomputable def rI(C:Int->Int->Prop)(g:Int->Int->V):R2:=λx y H Q=>∃i j,x=.int i/\y=.int j/\C i j/\Q (g i j) H
noncomputable def mz(g:Int->Int->V):R2:=λx y H Q=>∃i j,x=.int i/\y=.int j/\Q (g i j) H
noncomputable def rU(g:Int->V):V->Hp->VK->Prop:=λx H Q=>∃i,x=.int i/\Q (g i) H
section
variable{X:Cx}{a b c:ao}{ta tb tc:TE}{pos:Pos}
theorem vE(ha:PE X a ta)(hb:PE X b tb){pins:List (ah×Obj)}{s:af}{σ:St}{H:Hp}{R:V->V->Hp->Prop}(I:Inv X pins σ H s)
 (h:ta σ H λx H1=>tb σ H1 λy H2=>R x y H2) {Q:aa->af->Prop} {f:aa->aa->Sem aa}
 (hf:∀v u s2 x y H2,Inv X pins σ H2 s2->RelV x v->RelV y u->R x y H2->wpAny (model X.prog X.w) X.A (f v u) Q X.xe s2) :
 wpAny (model X.prog X.w) X.A (eval a X.env) (λv s₁=>wpAny (model X.prog X.w) X.A (eval b X.env) (λu s₂=>wpAny (model X.prog X.w) X.A (f v u) Q X.xe s₂) X.xe s₁) X.xe s:=by
 refine bG (ha pins s σ H _ I h) λv s1 z9=>z9.el λx H1 I1 r1 q1=>?_;refine bG (hb pins s1 σ H1 _ I1 q1) λu s2 z9=>z9.el λy H2 I2 r2 q2=>?_;exact hf v u s2 x y H2 I2 r1 r2 q2
theorem zT{op:Operator}{r:R2}(ho:dW X (binaryOp op) r)(ha:PE X a ta)(hb:PE X b tb):PE X (.BinOp a op b pos) (Ex r ta tb):=by intro pins s σ H Q I h;exact wpAny_BinOp (vE ha hb I h λv u s2 x y H2 I2 rx ry q=>ho pins s2 σ H2 x y v u Q I2 rx ry q)
theorem zU{op:UnaryOp}{r:V->Hp->VK->Prop}(ho:Hg X (unaryOp op) r)(ha:PE X a ta):PE X (.UnaryOp op a pos) (Sy r ta):=by intro pins s σ H Q I h;exact UnaryOp_ (bG (ha pins s σ H _ I h) λv s1 z9=>z9.el λx H1 I1 r1 q1=>ho pins s1 σ H1 x v Q I1 r1 q1)
theorem eF{f:aa->aa->Sem aa}{C:Int->Int->Prop}{g:Int->Int->Int}
 (rule:∀(i j:Int)(t u:Tok)(s:af)(Q:aa->af->Prop)(E:aa->af->Prop),C i j->Q (.int (g i j) s.toks) {s with toks:=s.toks+1}->wpAny (model X.prog X.w) X.A (f (.int i t) (.int j u)) Q E s) :
 dW X f (rI C λi j=>.int (g i j)):=by
 intro pins s σ H x y v u Q I rx ry h;obtain⟨i,j,rfl,rfl,hc,q⟩:=h;obtain⟨t,rfl⟩:=rx;obtain⟨t',rfl⟩:=ry;exact rule i j t t' s _ _ hc ⟨.int (g i j),H,I.tok _,⟨_,rfl⟩,q⟩
theorem zV{f:aa->aa->Sem aa}{g:Int->Int->Int}
 (rule:∀(i j:Int)(t u:Tok)(s:af)(Q:aa->af->Prop)(E:aa->af->Prop),Q (.int (g i j) s.toks) {s with toks:=s.toks+1}->wpAny (model X.prog X.w) X.A (f (.int i t) (.int j u)) Q E s) :
 dW X f (mz λi j=>.int (g i j)):=by
 intro pins s σ H x y v u Q I rx ry h;obtain⟨i,j,rfl,rfl,q⟩:=h;obtain⟨t,rfl⟩:=rx;obtain⟨t',rfl⟩:=ry;exact rule i j t t' s _ _ ⟨.int (g i j),H,I.tok _,⟨_,rfl⟩,q⟩
theorem qP{f:aa->aa->Sem aa}{g:Int->Int->Bool}
 (rule:∀(i j:Int)(t u:Tok)(s:af)(Q:aa->af->Prop)(E:aa->af->Prop),Q (.bool (g i j)) s->wpAny (model X.prog X.w) X.A (f (.int i t) (.int j u)) Q E s) :
 dW X f (mz λi j=>.bl (g i j)):=by
 intro pins s σ H x y v u Q I rx ry h;obtain⟨i,j,rfl,rfl,q⟩:=h;obtain⟨t,rfl⟩:=rx;obtain⟨t',rfl⟩:=ry;exact rule i j t t' s _ _ ⟨.bl (g i j),H,I,rfl,q⟩
noncomputable def qQ(i j:Int):Prop:=0<j/\j<1073741824
noncomputable def vF(i j:Int):Prop:=0<=j/\j<=1000000/\i.natAbs<2 ^ 64
noncomputable def qS(i j:Int):Prop:=(-(2 ^ 64)<i/\i<2 ^ 64)\/(-(2 ^ 64)<j/\j<2 ^ 64)
theorem qS.ok{i j:Int}(h:qS i j):IntMulOk i j:=by rcases h with⟨h1,h2⟩|⟨h1,h2⟩;exact .of_left (intBits_le_64 h1 h2);exact .of_right (intBits_le_64 h1 h2)
theorem Sz:dW X (binaryOp .Add) (mz λi j=>.int (i+j)):=zV λ_ _ _ _ _ _ _ q=>add_int q
theorem SD:dW X (binaryOp .Sub) (mz λi j=>.int (i-j)):=zV λ_ _ _ _ _ _ _ q=>sub_int q
theorem SG:dW X (binaryOp .Mult) (rI qS λi j=>.int (i*j)):=eF λ_ _ _ _ _ _ _ hc q=>mul_int q hc.ok
theorem SH:dW X (binaryOp .FloorDiv) (rI qQ λi j=>.int (i/j)):=eF λi j _ _ _ _ _ hc q=>by
 have h1:(0:Int)<j:=hc.1;have h2:j<1073741824:=hc.2;exact floordiv_int (by lia) (by rw[Int.fdiv_eq_ediv_of_nonneg i (by lia)];exact q) (.inl (PyProof.noPylong_small (by lia)))
theorem SI:dW X (binaryOp .Mod) (rI (λ_ j=>0<j) λi j=>.int (i % j)):=eF λi j _ _ _ _ _ hc q=>by
 have h1:(0:Int)<j:=hc;exact mod_int' (by lia) (by rw[Int.fmod_eq_emod_of_nonneg i (by lia)];exact q)
theorem SJ:dW X (binaryOp .Pow) (rI vF λi j=>.int (i ^ j.toNat)):=eF λ_ _ _ _ _ _ _ hc q=>pow_int_small hc.1 hc.2.1 hc.2.2 q
theorem SK{f:aa->Sem aa}{g:Int->Int}
 (rule:∀(i:Int)(t:Tok)(s:af)(Q:aa->af->Prop)(E:aa->af->Prop),Q (.int (g i) s.toks) {s with toks:=s.toks+1}->wpAny (model X.prog X.w) X.A (f (.int i t)) Q E s) :
 Hg X f (rU λi=>.int (g i)):=by
 intro pins s σ H x v Q I rx h;obtain⟨i,rfl,q⟩:=h;obtain⟨t,rfl⟩:=rx;exact rule i t s _ _ ⟨.int (g i),H,I.tok _,⟨_,rfl⟩,q⟩
theorem SM:Hg X (unaryOp .USub) (rU λi=>.int (-i)):=SK λ_ _ _ _ _ q=>neg_int q
end
section
variable{X:Cx}{a b c:ao}{ta tb tc:TE}{pos:Pos}
theorem Ey{pins:List (ah×Obj)}{σ:St}{H:Hp}{s:af}{Q:VK}{k k':Bool}(I:Inv X pins σ H s)(q:Q (.bl k) H)(e:k=k'):EP X pins σ Q (.bool k') s:=by subst e;exact⟨.bl k,H,I,rfl,q⟩
theorem zW:dW X (compareOp .Lt) (mz λi j=>.bl (decide (i<j))):=qP λ_ _ _ _ _ _ _ q=>lt_int q
theorem zX:dW X (compareOp .LtE) (mz λi j=>.bl (decide (i<=j))):=qP λ_ _ _ _ _ _ _ q=>le_int q
theorem zY:dW X (compareOp .Gt) (mz λi j=>.bl (decide (j<i))):=qP λ_ _ _ _ _ _ _ q=>gt_int q
theorem zZ:dW X (compareOp .GtE) (mz λi j=>.bl (decide (j<=i))):=qP λ_ _ _ _ _ _ _ q=>ge_int q
theorem SN:dW X (compareOp .Is) (λx y H Q=>y=.aI/\Q (.bl (decide (x=.aI))) H):=by
 intro pins s σ H x y v u Q I rx ry h;obtain⟨rfl,q⟩:=h;cases ry;refine is_none_gen (Ey I q ?_);cases x<;>first
  |(cases rx;rfl)
  |(obtain⟨t,rfl⟩:=rx;rfl)
theorem SO:dW X (compareOp .IsNot) (λx y H Q=>y=.aI/\Q (.bl (!decide (x=.aI))) H):=by
 intro pins s σ H x y v u Q I rx ry h;obtain⟨rfl,q⟩:=h;cases ry;refine isnot_none_gen (Ey I q ?_);cases x<;>first
  |(cases rx;rfl)
  |(obtain⟨t,rfl⟩:=rx;rfl)
theorem dW.or{f:aa->aa->Sem aa}{r r':R2}(h:dW X f r)(h':dW X f r'):dW X f (λx y H Q=>r x y H Q\/r' x y H Q):=by
 intro pins s σ H x y v u Q I rx ry q;rcases q with q|q
 exact h pins s σ H x y v u Q I rx ry q;exact h' pins s σ H x y v u Q I rx ry q
theorem SQ{op:CmpOp}{r:R2}(ho:dW X (compareOp op) r)(ha:PE X a ta)(hb:PE X b tb)(hm:behindInMarks op b=false):PE X (.Compare a [op] [b] pos) (Ex r ta tb):=by intro pins s σ H Q I h;exact wpAny_Compare1 (vE ha hb I h λv u s2 x y H2 I2 rx ry q=>ho pins s2 σ H2 x y v u Q I2 rx ry q) hm
noncomputable def tO(t:TE):TT:=λσ H Q=>t σ H λx H'=>∃k,x=.bl k/\Q k H'
theorem SR{op:CmpOp}{r:R2}(ho:dW X (compareOp op) r)(ha:PE X a ta)(hb:PE X b tb)(hm:behindInMarks op b=false):PT X (.Compare a [op] [b] pos) (tO (Ex r ta tb)):=by
 intro pins s σ H Q I h;refine wpAny_isTrue_Compare1 (bG (ha pins s σ H _ I h) λv s1 z9=>z9.el λx H1 I1 r1 q1=>bG (hb pins s1 σ H1 _ I1 q1) λu s2 z9=>z9.el λy H2 I2 r2 q2=>
  bG (ho pins s2 σ H2 x y v u _ I2 r1 r2 q2) λc s3 z9=>z9.el λz H3 I3 r3 ⟨k,e,q3⟩=>?_) hm
 subst e;cases r3;exact pR ⟨H3,I3,q3⟩
noncomputable def Hi(r r':R2)(ta tb tc:TE):TE:=λσ H Q=>ta σ H λx H1=>tb σ H1 λy H2=>r x y H2 λz H3=>∃k,z=.bl k/\
 (if k=true then tc σ H3 λw' H4=>r' y w' H4 Q else Q (.bl false) H3)
theorem SV{op op':CmpOp}{r r':R2}(ho:dW X (compareOp op) r)(ho':dW X (compareOp op') r')(ha:PE X a ta)(hb:PE X b tb)(hc:PE X c tc)
 (hm:lastMarks [op,op'] [b,c]=false:=by with_unfolding_all rfl):PE X (.Compare a [op,op'] [b,c] pos) (Hi r r' ta tb tc):=by
 intro pins s σ H Q I h;refine Compare_chain (bG (ha pins s σ H _ I h) λv s1 z9=>z9.el λx H1 I1 r1 q1=>chain_link (bG (hb pins s1 σ H1 _ I1 q1) λu s2 z9=>z9.el λy H2 I2 r2 q2=>
  bG (ho pins s2 σ H2 x y v u _ I2 r1 r2 q2) λd s3 z9=>z9.el λz H3 I3 r3 ⟨k,e,q3⟩=>?_)) hm
 subst e;cases r3;refine pR ?_;cases k with|false=>exact ite_ff ⟨.bl false,H3,I3,rfl,q3⟩|true=>exact ite_tt (chain_last (bG (hc pins s3 σ H3 _ I3 q3) λw' s4 z9=>z9.el λz' H4 I4 r4 q4=>ho' pins s4 σ H4 y z' u w' Q I4 r2 r4 q4))
theorem SX{op op':CmpOp}{r r':R2}(ho:dW X (compareOp op) r)(ho':dW X (compareOp op') r')(ha:PE X a ta)(hb:PE X b tb)(hc:PE X c tc)
 (hm:lastMarks [op,op'] [b,c]=false:=by with_unfolding_all rfl):PT X (.Compare a [op,op'] [b,c] pos) (tO (Hi r r' ta tb tc)):=by
 intro pins s σ H Q I h;refine isTrue_chain (bG (ha pins s σ H _ I h) λv s1 z9=>z9.el λx H1 I1 r1 q1=>test_link (bG (hb pins s1 σ H1 _ I1 q1) λu s2 z9=>z9.el λy H2 I2 r2 q2=>
  bG (ho pins s2 σ H2 x y v u _ I2 r1 r2 q2) λd s3 z9=>z9.el λz H3 I3 r3 ⟨k,e,q3⟩=>?_)) hm
 subst e;cases r3;refine pR ?_;cases k with
 |false=>
  obtain⟨k',e',q'⟩:=q3;cases e';exact ite_ff ⟨H3,I3,q'⟩
 |true=>
  refine ite_tt (test_last (bG (hc pins s3 σ H3 _ I3 q3) λw' s4 z9=>z9.el λz' H4 I4 r4 q4=>bG (ho' pins s4 σ H4 y z' u w' _ I4 r2 r4 q4) λd' s5 z9=>z9.el λz2 H5 I5 r5 dU=>?_));obtain⟨k2,e2,q5⟩:=dU;subst e2;cases r5;exact pR ⟨H5,I5,q5⟩
noncomputable def vG(K:aO)(x:V)(H:Hp)(k:Bool):Prop:=
 match x with|.aI=>k=false|.bl b=>k=b|.int i=>k=(i != 0)|.str y=>y.length<=sizeLine/\k=((y.length:Int) != 0)|.zy y=>y.size<=sizeLine/\k=((y.size:Int) != 0)|.ref p=>(∃xs,cN K H p xs/\k=!xs.isEmpty)\/(∃xs,bZ K H p xs/\k=!xs.isEmpty)\/∃kvs,H p=aB (.dK kvs)/\k=!kvs.isEmpty|_=>False
theorem SY{κ:Type}{kvs:List (κ×V)}{vs:List (κ×aa)}(r:KV kvs vs):(!vs.isEmpty)=!kvs.isEmpty:=by cases r<;>rfl
theorem L7{xs:List V}{its:List aa}(r:Vals xs its):(!its.toArray.isEmpty)=!xs.isEmpty:=by cases r<;>simp
theorem z0:(sizeLine:Nat)<2 ^ 63:=by rw[lg];decide
theorem S0:Hh X (λx H Q=>∃k,vG X.K x H k/\Q k H):=by
 intro pins s σ H x v Q I rx h;obtain⟨k,e,q⟩:=h;have hl:=z0;have hs:sizeLine=16777216:=lg;cases x with
 |aI=>
  cases rx;have e':k=false:=e;subst e';exact truthy_none ⟨H,I,q⟩
 |bl b=>
  cases rx;have e':k=b:=e;subst e';exact pR ⟨H,I,q⟩
 |int i=>
  obtain⟨t,rfl⟩:=rx;have e':k=(i != 0):=e;subst e';exact PySem.P.truthy_int ⟨H,I,q⟩
 |str y=>
  obtain⟨t,rfl⟩:=rx;obtain⟨hy,e'⟩:y.length<=sizeLine/\k=((y.length:Int) != 0):=e;subst e';exact PySem.P.truthy_str (by lia) ⟨H,I.tok _,q⟩
 |zy y=>
  obtain⟨t,rfl⟩:=rx;obtain⟨hy,e'⟩:y.size<=sizeLine/\k=((y.size:Int) != 0):=e;subst e';exact PySem.W.truthy_bytes (by lia) ⟨H,I.tok _,q⟩
 |ref p=>
  cases rx;have e':(∃xs,cN X.K H p xs/\k=!xs.isEmpty)\/(∃xs,bZ X.K H p xs/\k=!xs.isEmpty)\/∃kvs,H p=aB (.dK kvs)/\k=!kvs.isEmpty:=e;rcases e' with⟨xs,hx,e'⟩|⟨xs,hx,e'⟩|⟨kvs,hx,e'⟩
  subst e';obtain⟨its,r,pl,hz⟩:=I.list hx;have hlen:=r.length;exact wpAny_truthy_list pl.isList (by simp only[eY];lia) ⟨H,I.tok _,by rw[L7 r];exact q⟩;subst e';obtain⟨its,r,pl,hz⟩:=I.tuple hx;have hlen:=r.length;exact truthy_tuple pl (by simp only[eY];lia) ⟨H,I.tok _,by rw[L7 r];exact q⟩;subst e';obtain⟨hz,hS,vs,r,m⟩:kvs.length<=sizeLine/\(p==sysModules)=false/\∃vs,KV kvs vs/\s.heap.DictOf (iD X.prog X.w) p vs:=I.hok p _ hx;have hlen:kvs.length=vs.length:=vm r;exact wpAny_truthy_dict hS m (by lia) ⟨H,I.tok _,by rw[SY r];exact q⟩
 |_=>exact(show False from e).elim
theorem S1(ha:PE X a ta)(he:∀whole,isTrue a X.env whole=(do let v <-whole;standAt a.pos;holding [v] (truthy v))) :
 PT X a (λσ H Q=>ta σ H λx H'=>∃k,vG X.K x H' k/\Q k H'):=by
 intro pins s σ H Q I h;exact isTrue_plain (bG (ha pins s σ H _ I h) λv s1 z9=>z9.el λx H1 I1 r1 q1=>S0 pins s1 σ H1 x v Q I1 r1 q1) (he _)
theorem vals1{x:V}{us:List aa}(r:Vals [x] us):∃u,us=[u]/\RelV x u:=by
 cases r with|cons r1 r2=>cases r2;exact⟨_,rfl,r1⟩
theorem vals2{x y:V}{us:List aa}(r:Vals [x,y] us):∃u w',us=[u,w']/\RelV x u/\RelV y w':=by
 cases r with
 |cons r1 r2=>
  cases r2 with|cons r3 r4=>cases r4;exact⟨_,_,rfl,r1,r3⟩
theorem S2:bK X (.builtin "abs") (λxs H Q=>∃i,xs=[.int i]/\Q (.int (if i<0 then -i else i)) H):=by intro pins s σ H xs us Q I r h;obtain⟨i,rfl,q⟩:=h;obtain⟨u,rfl,t,rfl⟩:=vals1 r;exact call_abs_int λu tk=>⟨.int (if i<0 then -i else i),H,I.tok _,⟨_,rfl⟩,q⟩
theorem S3(hc:X.calm):bK X (.builtin "min") (λxs H Q=>∃i j,xs=[.int i,.int j]/\Q (.int (if j<i then j else i)) H):=by
 intro pins s σ H xs us Q I r h;obtain⟨i,j,rfl,q⟩:=h;obtain⟨u,w',rfl,⟨t,rfl⟩,⟨t',rfl⟩⟩:=vals2 r;refine min_two_ints (I.ok.hd hc) λh' tk k=>⟨_,H,I.kept k,?_,q⟩
 by_cases hj:j<i;rw[if_pos hj,if_pos hj];exact⟨_,rfl⟩;rw[if_neg hj,if_neg hj];exact⟨_,rfl⟩
theorem S4:bK X (.type "int") (λxs H Q=>(∃i,xs=[.int i]/\Q (.int i) H)\/∃k,xs=[.bl k]/\Q (.int (if k then 1 else 0)) H):=by
 intro pins s σ H xs us Q I r h;rcases h with⟨i,rfl,q⟩|⟨k,rfl,q⟩
 obtain⟨u,rfl,t,rfl⟩:=vals1 r;exact call_int_int ⟨.int i,H,I,⟨_,rfl⟩,q⟩;obtain⟨u,rfl,r1⟩:=vals1 r;cases r1;exact call_int_bool ⟨.int (if k then 1 else 0),H,I.tok _,⟨_,rfl⟩,q⟩
theorem S5:bK X (.builtin "divmod") (λxs H Q=>∃i j,xs=[.int i,.int j]/\qQ i j/\∀p,H p=aC->Q (.ref p) (upd H p (.tup [.int (i/j),.int (i % j)]))):=by intro pins s σ H xs us Q I r h;obtain⟨i,j,rfl,⟨h1,h2⟩,q⟩:=h;obtain⟨u,w',rfl,⟨t,rfl⟩,⟨t',rfl⟩⟩:=vals2 r;refine divmod_int (by lia) ?_ (.inl (PyProof.noPylong_small (by lia)));rw[Int.fdiv_eq_ediv_of_nonneg i (by lia),Int.fmod_eq_emod_of_nonneg i (by lia)];have hn:H s.heap.objs.size=aC:=I.hok.fresh (bq _);refine⟨.ref s.heap.objs.size,_,?_,rfl,q _ hn⟩;refine I.laid (λb o e=>dH _ e) (bq _) ⟨by simp only[dG,qw];rw[lg];decide,[.int (i/j) s.toks,.int (i % j) (s.toks+1)],.cons ⟨_,rfl⟩ (.cons ⟨_,rfl⟩ .nil),?_⟩;exact⟨_,gh s.heap rfl,rfl,⟨0,rfl⟩,rfl⟩
end
structure vH(h:az)(x dx C:ah)(mA:Str->Option aa):Prop where
 obj:h.get? x=aB (PySem.W.instObj C dx)
 ns:h.Ns1 dx mA
 ne:dx≠x
theorem S6{h:az}{dx:ah}{mA:Str->Option aa}(n:h.Ns1 dx mA):∃od,h.get? dx=aB od/\∀name,PySem.W.lookIn name od=aB (mA name):=by
 obtain⟨o,es,ep,ho,hd,hk,_,hm⟩:=n;refine⟨o,ho,λname=>?_⟩;have e:=hm name;unfold nsFind findBy at e;rw[<-Array.find?_toList]at e;unfold PySem.W.lookIn;rw[hd];dsimp only;split;rename_i y q;rw[q]at e;exact ku aB e;rename_i q;rw[q]at e;have a:es.toList.any (·.refKey)=false:=by rw[List.any_eq_false];intro y hy;obtain⟨z,t,hkey⟩:=hk y (Array.mem_toList_iff.mp hy);simp[DictEntry.refKey,hkey]
 have a':¬es.toList.any (·.refKey)=true:=by rw[a];exact nJ
 rw[if_neg a'];exact ku aB e
theorem vH.look{h:az}{x dx C:ah}{mA:Str->Option aa}(I:vH h x dx C mA):∃od,PySem.W.InstAt h x (PySem.W.instObj C dx) C (aB od)/\∀name,PySem.W.lookIn name od=aB (mA name):=
 let⟨od,ho,hl⟩:=S6 I.ns
 ⟨od,⟨I.obj,rfl,rfl,ho⟩,hl⟩
theorem gJ.some_of{v:V}{o:Option aa}(r:gJ (aB v) o):∃u,o=aB u/\RelV v u:=by
 cases o with|none=>exact(show False from r).elim|some u=>exact⟨u,rfl,r⟩
section
variable{P:ai}{w:aj}{H H':Hp}{h h':az}{a C dx:ah}{fs fs':List (Str×V)}
theorem S7(hok:fN P w H h)(e:H a=aB (.ins C dx fs)):∃mA,vH h a dx C mA/\(∀f,gJ (fs.lookup f) (mA f))/\PySem.Within mA (fs.map (·.1))/\fs.length<=1000/\H dx=aB (.own a):=by
 obtain⟨d,z,ne,ob,mA,n,r,q⟩:=(show aZ P w H h a (.ins C dx fs)from hok a _ e)
 exact⟨mA,⟨ob,n,ne⟩,r,q,z,d⟩
end
structure Hj(K:aO)(C:ah):Prop where
 pg:PySem.W.plainGet K C Str.empty=true
 hd:PySem.W.hasDictIn K C=true
 po:PySem.W.plainOver K C=true
 sa:PySem.W.findIn K (.ref C) "__setattr__" = aB (aB (.builtin "object.__setattr__"))
theorem Hj.get{K:aO}{C:ah}(c:Hj K C)(f:Str):PySem.W.plainGet K C f=true:=c.pg
section
variable{X:Cx}{pins:List (ah×Obj)}{σ:St}{H:Hp}{s:af}{A:ak}{E:aa->af->Prop}{Q:aa->af->Prop}{c:aa}{b:Bool}
inductive gm(K:aO)(H:Hp):V->aa->Prop where
 |aI:gm K H .aI (.type "NoneType")
 |bl (x:Bool):gm K H (.bl x) (.type "bool")
 |int (i:Int):gm K H (.int i) (.type "int")
 |str (x:Str):gm K H (.str x) (.type "str")
 |ye (x:UInt64):gm K H (.ye x) (.type "float")
 |lst {a:ah} {xs:List V} (e:H a=aB (.lst xs)):gm K H (.ref a) (.type "list")
 |bN {a:ah} {o:Obj} {xs:List V} (e:H a=aB (.bN o (.lst xs))):gm K H (.ref a) (.type "list")
 |tup {a:ah} {xs:List V} (e:H a=aB (.tup xs)):gm K H (.ref a) (.type "tuple")
 |dK {a:ah} {kvs:List (Key×V)} (e:H a=aB (.dK kvs)):gm K H (.ref a) (.type "dict")
 |dT {a:ah} {kvs:List (List Key×V)} (e:H a=aB (.dT kvs)):gm K H (.ref a) (.type "dict")
 |ins {a C dx:ah} {fs:List (Str×V)} (e:H a=aB (.ins C dx fs)) (cl:Hj K C) (ha:PySem.W.findIn K (.ref C) "__class__" = aB (aB (.builtin "object.__class__")))
   (hn:PySem.W.specialIn K (.builtin "object.__class__") "__get__" = aB (aB (.builtin "getset_descriptor.__get__"))) (htk:PySem.W.takesIn K (.builtin "object.__class__")=aB true)
   (hm:PySem.W.mroIn K C (.type "object")=aB true):gm K H (.ref a) (.ref C)
theorem S8{x:V}{u t:aa}(I:Inv X pins σ H s)(rx:RelV x u)(ty:gm X.K H x t)(e:PySem.W.kitOne X.K t c=aB b)(h:∀tk,Q (.bool b) {s with toks:=tk}) :
 wpAny (model X.prog X.w) A (call (.builtin "isinstance") [u,c]) Q E s:=by
 cases ty with
 |aI=>cases(show u=Value.none from rx);exact mq PySem.W.kitx_none I.jB True.intro e (λz=>nomatch z) h
 |bl y=>cases(show u=Value.bool y from rx);exact mq PySem.W.kitx_bool I.jB True.intro e (λz=>nomatch z) h
 |int i=>obtain⟨t,q⟩:=(show ∃t,u=Value.int i t from rx);cases q;exact mq PySem.W.kitx_int I.jB True.intro e (λz=>nomatch z) h
 |str y=>obtain⟨t,q⟩:=(show ∃t,u=Value.str y t from rx);cases q;exact mq PySem.W.kitx_str I.jB True.intro e (λz=>nomatch z) h
 |ye y=>obtain⟨t,q⟩:=(show ∃t,u=Value.float y t from rx);cases q;exact mq PySem.W.kitx_float I.jB True.intro e (λz=>nomatch z) h
 | @lst a xs ea=>
  cases(show u=Value.ref a from rx);obtain⟨_,_,n,_,h1⟩:=(show aZ X.prog X.w H s.heap a (.lst xs)from I.hok a _ ea)
  exact mq PySem.W.kitx_list I.jB ⟨_,h1,rfl⟩ e (λz=>nomatch z) h
 | @bN a ob xs ea=>
  cases(show u=Value.ref a from rx);obtain⟨_,_,_,n,_,h1⟩:=(show aZ X.prog X.w H s.heap a (.bN ob (.lst xs))from I.hok a _ ea)
  exact mq PySem.W.kitx_list I.jB ⟨_,h1,rfl⟩ e (λz=>nomatch z) h
 | @tup a xs ea=>
  cases(show u=Value.ref a from rx);obtain⟨_,_,_,p⟩:=(show aZ X.prog X.w H s.heap a (.tup xs)from I.hok a _ ea)
  obtain⟨o,h1,h2,_⟩:=p;exact mq PySem.W.kitx_tuple I.jB ⟨o,h1,h2⟩ e (λz=>nomatch z) h
 | @dK a kvs ea=>
  cases(show u=Value.ref a from rx);obtain⟨_,_,vs,_,p⟩:=(show aZ X.prog X.w H s.heap a (.dK kvs)from I.hok a _ ea)
  obtain⟨o,es,ep,h1,h2,_⟩:=p;exact mq PySem.W.kitx_dict I.jB ⟨o,h1,h2.1⟩ e (λz=>nomatch z) h
 | @dT a kvs ea=>
  cases(show u=Value.ref a from rx);obtain⟨_,_,xs,_,o,es,ep,h1,h2,_⟩:=(show aZ X.prog X.w H s.heap a (.dT kvs)from I.hok a _ ea)
  exact mq PySem.W.kitx_dict I.jB ⟨o,h1,h2.1⟩ e (λz=>nomatch z) h
 | @ins a C dx fs ea cl ha hn htk hm=>
  cases(show u=Value.ref a from rx);obtain⟨mA,O,_⟩:=S7 I.hok ea;obtain⟨od,J,_⟩:=O.look;exact mq (PySem.W.kitx_own (cl.get _) cl.hd ha hn htk hm) I.jB J e (λz=>nomatch z) h
end
structure dB(k:Nat)(A:ak):Prop where
 hd:A.handled=aC
 dp:A.depth+3*k+5<recursionLimit
 un:A.units+16*k+200<cLine
theorem dB.deeper{k:Nat}{A:ak}(r:dB (k+1) A)(env:Env):dB k (A.deeper env):=
 ⟨r.hd,by have:=r.dp;show A.depth+1+3*k+5<_;lia,by have:=r.un;show A.units+3+16*k+200<_;lia⟩
theorem dB.depth{k:Nat}{A:ak}(r:dB k A):A.depth<recursionLimit:=by have:=r.dp;lia
theorem dB.units{k:Nat}{A:ak}(r:dB k A):A.units+64<cLine:=by have:=r.un;lia
noncomputable def Aa:TA:=λ_ H Q=>Q [] H
noncomputable def Ab(ta:TE)(tr:TA):TA:=λσ H Q=>ta σ H λx H1=>tr σ H1 λxs H2=>Q (x::xs) H2
section
variable{X:Cx}{e:ao}{es:List ao}{te:TE}{t:TA}{pos:Pos}
theorem Ez:PA X [] Aa:=λ_ _ _ _ H Q I h=>Calls.spliced_nil ⟨[],H,I,.nil,h⟩
theorem Ac(ha:PE X e te)(hr:PA X es t)(hs:autoParam (starEach (e::es) X.env=(false,eval e X.env)::starEach es X.env) L2.aR._auto_1):PA X (e::es) (Ab te t):=by intro pos pins s σ H Q I h;rw[hs];show wpAny _ _ (spliced ((false,eval e X.env)::backTo pos (starEach es X.env))) _ _ s;refine Calls.spliced_cons (bG (ha pins s σ H _ I h) λu s1 z9=>z9.el λx H1 I1 r1 q1=>?_);exact bG (hr pos pins s1 σ H1 _ I1 q1) λus s2 z9=>z9.el λxs H2 I2 r2 q2=>⟨x::xs,H2,I2,.cons r1 r2,q2⟩
noncomputable def Hl(t:TA):TE:=λσ H Q=>t σ H λxs H1=>xs.length<=sizeLine/\∀p,H1 p=aC->Q (.ref p) (upd H1 p (.tup xs))
noncomputable def Ho(t:TA):TE:=λσ H Q=>t σ H λxs H1=>xs.length<=sizeLine/\∀p,H1 p=aC->Q (.ref p) (upd H1 p (.lst xs))
theorem S9{x1}(h:PA X es t):PE X (.Tuple es x1 pos) (Hl t):=by intro pins s σ H Q I hq;refine wpAny_Tuple_spliced (bG (h pos pins s σ H _ I hq) λus s1 z9=>z9.el λxs H1 I1 r ⟨z,q⟩=>⟨by rw[<-r.length];exact z,?_⟩);have hf:H1 s1.heap.objs.size=aC:=I1.hok.fresh (bq _);refine⟨.ref s1.heap.objs.size,upd H1 s1.heap.objs.size (.tup xs),I1.laid (t':=s1.toks) (λb u e=>dH _ e) (bq _) ?_,rfl,q _ hf⟩;exact⟨z,us,r,nq.new _ _⟩
theorem Tc(h:PA X es t):PE X (.List es pos) (Ho t):=by intro pins s σ H Q I hq;refine wpAny_List_spliced (bG (h pos pins s σ H _ I hq) λus s1 z9=>z9.el λxs H1 I1 r ⟨z,q⟩=>⟨by rw[<-r.length];exact z,?_⟩);have hf:H1 s1.heap.objs.size=aC:=I1.hok.fresh (bq _);refine⟨.ref s1.heap.objs.size,upd H1 s1.heap.objs.size (.lst xs),I1.laid (t':=s1.toks) (λb u e=>dH _ e) (bq _) ?_,rfl,q _ hf⟩;exact⟨z,us,0,r,gh _ rfl⟩
end
noncomputable abbrev Sp:=List V->Hp->VK->XK->Prop
noncomputable abbrev pV:=List Env->Hp->af->XK->aa->af->Prop
structure qV(P:ai)(w:aj)(K:aO)(mg:Str->Option aa)(base:az)(A:ak)(outer:List Env)(s:af)(H:Hp):Prop where
 frames:A.frames=aB outer
 mod:Mod K mg base
 bs:∀b o,base.get? b=aB o->s.heap.get? b=aB o/\H b=aC
 vt:base.objs.size<=s.heap.objs.size
 iE:s.heap.FunFrames base outer
 yi:∀b∈frs outer,H b=aC
 hok:fN P w H s.heap
 bare:AllBare s.gens
noncomputable def CE(outer:List Env)(P:ai)(w:aj)(H:Hp)(s:af)(Q:VK)(u:aa)(s':af):Prop:=
 ∃v H',s'.os=s.os/\AllBare s'.gens/\Un (frs outer) [] H H' s.heap s'.heap/\fN P w H' s'.heap/\RelV v u/\Q v H'
noncomputable def CR(CX:pV)(outer:List Env)(P:ai)(w:aj)(H:Hp)(s:af)(Q:VK)(E:XK)(r:Result)(s':af):Prop:=
 match r with|.ok (.ret u)=>CE outer P w H s Q u s'|.ok _=>False|.error e=>CX outer H s E e s'
structure fU(P:ai)(w:aj)(K:aO)(mg:Str->Option aa)(base:az)(CX:pV)(k:Nat)(f:ah)(fd:au)(ps:List Str)(sp:Sp):Prop where
 len:∀vs H Q E,sp vs H Q E->vs.length=ps.length
 run:∀(A:ak)(outer:List Env)(s:af)(H:Hp)(args:Args)(us:List aa)(vs:List V)(Q:VK)(E:XK),dB k A->qV P w K mg base A outer s H->BindsTo s fd args (ps.zip us)->Vals vs us->sp vs H Q E->
  codeAny (model P w) A (.call (.ref f) args) (CR CX outer P w H s Q E) s
section
variable{X:Cx}{pins:List (ah×Obj)}{σ:St}{H:Hp}{s s':af}
theorem Inv.Hq(I:Inv X pins σ H s):qV X.prog X.w X.K X.mg X.base X.A X.stack s H:=
 ⟨I.ok.frames,I.ok.mod,I.bs,iY I.ok.vt I.sz,I.stack,I.lA,I.hok,I.bare⟩
theorem Inv.after{Q:VK}{u:aa}(I:Inv X pins σ H s)(h:CE X.stack X.prog X.w H s Q u s'):EP X pins σ Q u s':=by obtain⟨v,H',os,bare,un,hok,r,q⟩:=h;obtain⟨hh,g,d,t,os'⟩:=s';obtain rfl:os'=s.os:=os;exact⟨v,H',I.call (h':=hh) (g':=g) (d':=d) (t':=t) (ch:=[]) un hok bare (λb z=>absurd z (by simp)),r,q⟩
end
noncomputable def tP(sp:Sp)(nP:List V)(E:XK)(t:TA):TE:=λσ H Q=>t σ H λvs H1=>sp (vs++nP) H1 Q E
noncomputable def Binds(K:aO)(fd:au)(ps:List Str)(ds:List aa):Prop:=
 ∀(s:af)(us:List aa),K.In s.heap->(us++ds).length=ps.length->BindsTo s fd ⟨us,[]⟩ (ps.zip (us++ds))
theorem Binds.all{K:aO}{fd:au}{ps:List Str}(h:∀us:List aa,us.length=ps.length->bindArgs fd ⟨us,[]⟩=pure (ps.zip us)):Binds K fd ps []:=λs us _ hl=>by
 rw[pT]at hl ⊢;exact .of_eq (h us hl)
noncomputable def EA(CX:pV)(X:Cx)(E:XK):Prop:=∀(pins:List (ah×Obj)) (σ:St) (H:Hp) (s:af) (e:aa) (s':af),Inv X pins σ H s->CX X.stack H s E e s'->X.xe e s'
section
variable{X:Cx}{CX:pV}{k:Nat}{f C:ah}{fd:au}{ps:List Str}{sp:Sp}{nP:List V}{ds:List aa}{E:XK}{x m:Str}{p pos apos:Pos}{e o:ao}{es:List ao}{ta:TE}{t:TA}
theorem L8{pins:List (ah×Obj)}{σ:St}{H:Hp}{s:af}{Q:VK}{us:List aa}{vs:List V}(F:fU X.prog X.w X.K X.mg X.base CX k f fd ps sp)(hr:dB k X.A)(hb:Binds X.K fd ps ds)(hd:Vals nP ds)(hx:EA CX X E)
 (I:Inv X pins σ H s) (r:Vals vs us) (h:sp (vs++nP) H Q E):wpAny (model X.prog X.w) X.A (call (.ref f) us) (EP X pins σ Q) X.xe s:=by
 have r2:Vals (vs++nP) (us++ds):=r.append hd;have hl:(us++ds).length=ps.length:=by rw[<-r2.length];exact F.len _ _ _ _ h
 refine wpAny_call (codeAny_mono (F.run X.A X.stack s H ⟨us,[]⟩ (us++ds) (vs++nP) Q E hr I.Hq (hb s us I.jB hl) r2 h) λr s' hq=>?_);cases r with
 |error e=>exact hx pins σ H s e s' I hq
 |ok fl=>
  cases fl with|ret u=>exact I.after hq|next=>exact False.elim hq|brk=>exact False.elim hq|cont=>exact False.elim hq
theorem Ma(F:fU X.prog X.w X.K X.mg X.base CX k f fd ps sp)(hr:dB k X.A)(hg:Gl X x)(hm:X.mg x=aB (.ref f))(hk:PySem.W.keepIn X.K (.ref f))(hb:Binds X.K fd ps ds)(hd:Vals nP ds)(hx:EA CX X E)
 (ha:PA X (e::es) t) (hdb:autoParam ((x==("__debug__" : Str))=false) L2.aD._auto_1) (he:autoParam (starEach (e::es) X.env=(false,eval e X.env)::starEach es X.env) L2.aR._auto_1) (hpl:autoParam ((backTo pos (starEach es X.env)).any (·.1)=false) L2.aR._auto_1) :
 PE X (.Call (.Name x p) (e::es) [] pos) (tP sp nP E t):=by
 intro pins s σ H Q I h;refine Dm (GR I hg hm ?_ hdb);refine PySem.W.callWith_K (h₀:=X.base) I.ok.mod.GK hk (bG (ha pos pins s σ H _ I h) λus s1 z9=>z9.el λvs H1 I1 r q=>⟨I1.jB,?_⟩) he hpl;exact L8 F hr hb hd hx I1 r q
theorem Td(F:fU X.prog X.w X.K X.mg X.base CX k f fd ps sp)(hr:dB k X.A)(hg:Gl X x)(hm:X.mg x=aB (.ref f))(hk:PySem.W.keepIn X.K (.ref f))(hb:Binds X.K fd ps ds)(hd:Vals nP ds)(hx:EA CX X E)
 (hdb:autoParam ((x==("__debug__" : Str))=false) L2.aD._auto_1):PE X (.Call (.Name x p) [] [] pos) (tP sp nP E Aa):=by
 intro pins s σ H Q I h;refine Dm (GR I hg hm ?_ hdb);exact PySem.W.callWith_K0 I.jB hk (L8 (us:=[]) F hr hb hd hx I .nil h)
end
structure dJ(N P:List Str)(sc:ay):Prop where
 kind:sc.kind=.function
 co:sc.isCoroutine=false
 gen:sc.isGenerator=false
 nd:N.Nodup
 pre:N.take P.length=P
 par:∀x∈P,sc.names.lookup x=aB .local\/sc.names.lookup x=aB .cell
 vI:∀y∈sc.names,y.2≠.free
theorem Mb{kindOf:Str->Option NameKind}{x:Str}:∀{binds:List (Str×aa)} {m:Str->Option aa},(∀v,(x,v)∉binds)->bindL kindOf binds m x=m x
 |[],_,_=>rfl
 |(n,v)::r,m,h=>by
  unfold bindL;rw[Mb λw hw=>h w (eU _ hw)];split;have:x≠n:=by rintro rfl;exact h v eX
  simp[this];rfl
theorem Mc{kindOf:Str->Option NameKind}{x:Str}:∀{binds:List (Str×aa)} {m:Str->Option aa},(∀v,(x,v)∉binds)->bindC kindOf binds m x=m x
 |[],_,_=>rfl
 |(n,v)::r,m,h=>by
  unfold bindC;rw[Mc λw hw=>h w (eU _ hw)];split;rfl;have:x≠n:=by rintro rfl;exact h v eX
  simp[this]
theorem Me{kindOf:Str->Option NameKind}{x:Str}{v:aa}:∀{P:List Str} {vs:List aa} {i:Nat} {m:Str->Option aa},P.Nodup->P[i]?=aB x->vs[i]?=aB v->kindOf x=aB .local->
 bindL kindOf (P.zip vs) m x=aB v
 |[],_,_,_,_,h,_,_=>by simp at h
 |_::_,[],_,_,_,_,h,_=>by simp at h
 |p::P,w::vs,0,m,nd,h1,h2,hk=>by
  simp at h1 h2;subst h1;subst h2;show bindL kindOf ((p,w)::P.zip vs) m p=_;unfold bindL;rw[Mb λv hv=>(tu.mp nd).1 (List.of_mem_zip hv).1,if_pos hk];simp
 |p::P,w::vs,i+1,m,nd,h1,h2,hk=>by
  show bindL kindOf ((p,w)::P.zip vs) m x=_;unfold bindL;exact Me (i:=i) (tu.mp nd).2 (by simpa using h1) (by simpa using h2) hk
theorem Mf{kindOf:Str->Option NameKind}{x:Str}{v:aa}:∀{P:List Str} {vs:List aa} {i:Nat} {m:Str->Option aa},P.Nodup->P[i]?=aB x->vs[i]?=aB v->kindOf x≠aB .local->
 bindC kindOf (P.zip vs) m x=aB v
 |[],_,_,_,_,h,_,_=>by simp at h
 |_::_,[],_,_,_,_,h,_=>by simp at h
 |p::P,w::vs,0,m,nd,h1,h2,hk=>by
  simp at h1 h2;subst h1;subst h2;show bindC kindOf ((p,w)::P.zip vs) m p=_;unfold bindC;rw[Mc λv hv=>(tu.mp nd).1 (List.of_mem_zip hv).1,if_neg hk];simp
 |p::P,w::vs,i+1,m,nd,h1,h2,hk=>by
  show bindC kindOf ((p,w)::P.zip vs) m x=_;unfold bindC;exact Mf (i:=i) (tu.mp nd).2 (by simpa using h1) (by simpa using h2) hk
noncomputable def start(N:List Str)(vs:List V):St:=vs.map aB++bf (N.length-vs.length) aC
noncomputable def jV(CX:pV)(P:ai)(w:aj)(K:aO)(mg:Str->Option aa)(base:az)(N:List Str)(qual:Str)(scope:ay)(f:ah)(cd:aa)(A:ak)(outer:List Env)(s:af)(H:Hp)(E:XK):Cx where
 prog:=P
 w:=w
 K:=K
 mg:=mg
 base:=base
 A:=A.deeper (envOfC qual scope s.heap.objs.size f cd)
 N:=N
 s₀:=s
 H₀:=H
 env:=envOfC qual scope s.heap.objs.size f cd
 outer:=outer
 stack:=envOfC qual scope s.heap.objs.size f cd::outer
 ex:=[]
 calm:=true
 fn:=λ_=>true
 pn:=[]
 xe:=λe s'=>wpAny (model P w) (A.deeper (envOfC qual scope s.heap.objs.size f cd)) (leaving (envOfC qual scope s.heap.objs.size f cd) e) (λ_ s''=>CX outer H s E e s'') (λe' s''=>CX outer H s E e' s'') s'
theorem Mg{sc:ay}{n:Nat}{x:Str}(h:sc.names.lookup x=aB .cell):∃c,(cellsFrom n sc.names []).lookup x=aB c:=by have q:=PySem.W.cellsFrom_some sc.names n [] (.inl h);exact Option.isSome_iff_exists.mp q
theorem Te{CX:pV}{P:ai}{w:aj}{K:aO}{mg:Str->Option aa}{base:az}{N ps:List Str}{qual:Str}{scope:ay}{f:ah}{cd:aa}{A:ak}{outer:List Env}{s s1:af}{H:Hp}{E:XK}{us:List aa}{vs:List V}
 (S:dJ N ps scope) (hd:A.handled=aC) (e0:qV P w K mg base A outer s H) (hl:vs.length=ps.length) (r:Vals vs us)
 (x:InCallC s s.heap.objs.size (bindL (envOfC qual scope s.heap.objs.size f cd).kindOf (ps.zip us) λ_=>aC) (cellsFrom (s.heap.objs.size+1) scope.names []) (bindC (envOfC qual scope s.heap.objs.size f cd).kindOf (ps.zip us) λ_=>aC) s1) :
 Inv (jV CX P w K mg base N qual scope f cd A outer s H E) [] (start N vs) H s1:=by
 have hpl:ps.length<=N.length:=by have:=ku List.length S.pre;rw[List.length_take]at this;lia
 obtain⟨h1,tk,rfl,hk⟩:=x.done;have Ad:∀b:ah,b∉(jV CX P w K mg base N qual scope f cd A outer s H E).ex:=λb z=>absurd (show b∈([]:List ah)from z) (by simp);refine⟨⟨e0.mod,S.kind,rfl,rfl,bq _,λy z c h1 h2=>?_,λy hy=>?_,λy c _ h=>?_,λ_=>hd,Around.frames_deeper e0.frames,.inr ⟨rfl,rfl⟩,λb z=>absurd z (Ad b),e0.bs,e0.vt,λb _ _=>Ad b,λb z=>absurd z (Ad b),e0.iE,e0.yi⟩,
  rfl,e0.bare,Un.kept hk,⟨_,x.toInCall.ns,λi y v h1 h2 h3=>?_⟩,λy c h=>⟨_,x.cell y c h⟩,e0.hok.fresh (bq _),λy c h=>?_,λp hp=>absurd (show p∈([]:List (ah×Obj))from hp) (by simp),e0.hok.kept hk,?_⟩
 exact name_of_addr x.apart (zc h1) (zc h2);have hy:scope.names.lookup y=aB .cell\/scope.names.lookup y=aB .free:=hy;rcases hy with hy|hy
 exact Mg hy;exact absurd rfl (S.vI _ (zc hy));exact tE (x.above y c (zc h));have hi:i<vs.length:=by unfold start at h2;by_cases hi:i<vs.length;exact hi;rw[kI (by simpa using hi)]at h2;rw[zd]at h2;split at h2<;>cases h2
 have ha:vs[i]?=aB v:=by
  unfold start at h2;rw[nC (by simpa using hi),iC]at h2;cases e:vs[i]? with|none=>rw[e]at h2;cases h2|some a=>rw[e]at h2;cases h2;rfl
 obtain⟨u,hu,rv⟩:=r.get ha;have hp:ps[i]?=aB y:=by rw[<-S.pre,List.getElem?_take_of_lt (by lia)];exact h1
 have Mh:ps.Nodup:=by rw[<-S.pre];exact S.nd.sublist (List.take_sublist _ _)
 refine⟨u,rv,?_⟩;rcases S.par y (l9 hp)with k|k
 exact .inl ⟨k,Me Mh hp hu k⟩;obtain⟨c,e⟩:=Mg (n:=s.heap.objs.size+1) k;refine .inr ⟨.inl k,c,e,?_⟩;have q:=x.cell y c e;rw[Mf Mh hp hu (by show scope.names.lookup y≠_;rw[k];decide)]at q;exact q;exact e0.hok.fresh (tE (x.above y c (zc h)));unfold start;show _=N.length;rw[fS,bF,ze];lia
theorem Ae{CX:pV}{P:ai}{w:aj}{K:aO}{mg:Str->Option aa}{base:az}{k:Nat}{f:ah}{name qual:Str}{params:Arguments}{body:List aq}{scope:ay}{dV kV doc pm cdv ct oc:aa}{an od:Option ah}
 {osl:Array (Option aa)} {N ps:List Str} {sp:Sp} (lk:K.lookup f=aB ⟨oc,od,.func (PySem.W.fnOf name qual params body scope dV kV doc pm an cdv ct),osl⟩) (hcd:PySem.W.codeIn K cdv qual) (S:dJ N ps scope)
 (len:∀vs H Q E,sp vs H Q E->vs.length=ps.length)
 (hbody:∀(A:ak)(outer:List Env)(s:af)(H:Hp)(vs:List V)(Q:VK)(E:XK),dB k (A.deeper (envOfC qual scope s.heap.objs.size f cdv))->sp vs H Q E->
   ∃t,kE (jV CX P w K mg base N qual scope f cdv A outer s H E) body t/\t {nx:=λ_ H'=>Q .aI H',rt:=Q} (start N vs) H) :
 fU P w K mg base CX (k+1) f (PySem.W.fnOf name qual params body scope dV kV doc pm an cdv ct) ps sp:=by
 refine⟨len,λA outer s H args us vs Q E hr e0 hb r pX=>?_⟩;have hl:=len _ _ _ _ pX;have KX:K.In s.heap:=e0.mod.GK.keeps λb o e=>(e0.bs b o e).1;have lim:s.heap.NoLimit:=e0.mod.nolimit.keeps λb o e=>(e0.bs b o e).1;have hkind:∀y∈ps.zip us,scope.names.lookup y.1=aB .local\/(scope.names.lookup y.1=aB .cell/\((cellsFrom (s.heap.objs.size+1) scope.names []).lookup y.1).isSome):=λdU hy=>by
  obtain⟨n,v⟩:=dU;rcases S.par n (List.of_mem_zip hy).1 with q|q;exact .inl q;exact .inr ⟨q,PySem.W.cellsFrom_some _ _ _ (.inl q)⟩
 refine codeAny_call_function hr.depth (KX _ _ lk) rfl S.co S.gen rfl (PySem.W.codeRec_of KX hcd) (hb _ _ _ _ ?_);refine wpAny_newFunctionEnv_cells S.kind hkind λenv he s1 x=>?_;subst he;refine⟨lim.keeps x.toInCall.keep,codeAny_func ?_⟩;obtain⟨t,ht,hq⟩:=hbody A outer s H vs Q E (hr.deeper _) pX;have I:Inv (jV CX P w K mg base N qual scope f cdv A outer s H E) [] (start N vs) H s1:=Te S hr.hd e0 hl r x;refine nB (ht [] s1 (start N vs) H _ I hq) (λfl s' hs=>?_) λe s' hs=>hs;have fin:∀{σ':St}{H':Hp}{v:V}{u:aa},Inv (jV CX P w K mg base N qual scope f cdv A outer s H E) [] σ' H' s'->RelV v u->Q v H'->CE outer P w H s Q u s':=
  λ{σ' H' v u} J rv q=>⟨v,H',J.os,J.bare,J.base,J.hok,rv,q⟩
 cases fl with
 |ret u=>
  obtain⟨v,σ',H',J,rv,q⟩:=hs;exact fin J rv q
 |next=>
  obtain⟨σ',H',J,q⟩:=hs;exact fin (v:=V.aI) (u:=Value.none) J rfl q
 |brk=>
  obtain⟨_,_,_,q⟩:=hs;exact False.elim q
 |cont=>
  obtain⟨_,_,_,q⟩:=hs;exact False.elim q
section
variable{X:Cx}{x:Str}{p pos:Pos}{e:ao}{es:List ao}{t:TA}{id T:String}{r:List V->Hp->VK->Prop}
noncomputable def Mi(r:List V->Hp->VK->Prop)(t:TA):TE:=λσ H Q=>t σ H λvs H1=>r vs H1 Q
theorem Mj(hc:bK X (.builtin id) r)(hg:Gl X x)(hm:X.mg x=aC)(hv:bootBuiltins x=aB (.builtin id))(ha:PA X (e::es) t)(hn:autoParam (x≠"__name__") L2.aD._auto_1)(hdb:autoParam ((x==("__debug__" : Str))=false) L2.aD._auto_1)
 (he:autoParam (starEach (e::es) X.env=(false,eval e X.env)::starEach es X.env) L2.aR._auto_1) (hpl:autoParam ((backTo pos (starEach es X.env)).any (·.1)=false) L2.aR._auto_1):PE X (.Call (.Name x p) (e::es) [] pos) (Mi r t):=by
 intro pins s σ H Q I h;refine Dm (vA I hg hm hv ?_ hn hdb);exact PyProof.Rows.callWith_builtin1 (bG (ha pos pins s σ H _ I h) λus s1 z9=>z9.el λvs H1 I1 r1 q1=>hc pins s1 σ H1 vs us Q I1 r1 q1) he hpl
theorem Tf(hc:bK X (.type T) r)(hg:Gl X x)(hm:X.mg x=aC)(hv:bootBuiltins x=aB (.type T))(ha:PA X (e::es) t)(hn:autoParam (x≠"__name__") L2.aD._auto_1)(hdb:autoParam ((x==("__debug__" : Str))=false) L2.aD._auto_1)
 (he:autoParam (starEach (e::es) X.env=(false,eval e X.env)::starEach es X.env) L2.aR._auto_1) (hpl:autoParam ((backTo pos (starEach es X.env)).any (·.1)=false) L2.aR._auto_1):PE X (.Call (.Name x p) (e::es) [] pos) (Mi r t):=by
 intro pins s σ H Q I h;refine Dm (vA I hg hm hv ?_ hn hdb);exact zq (bG (ha pos pins s σ H _ I h) λus s1 z9=>z9.el λvs H1 I1 r1 q1=>hc pins s1 σ H1 vs us Q I1 r1 q1) he hpl
end
end L2
namespace HT
open PySem PyProof.Rows
section
variable{prog:ai}{w:aj}{A:ak}{E:aa->af->Prop}{s:af}
noncomputable def bI(n d:Nat):Option Int->Nat|none=>d|some v=>if v<0 then(v+ (n:Int)).toNat else min v.toNat n
theorem jW(n d:Nat):bI n d aC=d:=rfl
theorem iu(n d k:Nat):bI n d (aB (k:Int))=min k n:=by show(if(k:Int)<0 then((k:Int)+ (n:Int)).toNat else min (k:Int).toNat n)=min k n;rw[if_neg (by lia),qI]
theorem Th(n d:Nat)(hd:d<=n)(o:Option Int):bI n d o<=n:=by
 cases o with
 |none=>exact hd
 |some v=>
  show(if v<0 then(v+ (n:Int)).toNat else min v.toNat n)<=n;by_cases hv:v<0;rw[if_pos hv];lia;rw[if_neg hv];exact Nat.min_le_right _ _
theorem Mk(v:Int)(n d:Nat):(if v<0 then max (v+ (n:Int)) 0 else min v (n:Int))=((bI n d (aB v):Nat):Int):=by
 show(if v<0 then max (v+ (n:Int)) 0 else min v (n:Int))=(((if v<0 then(v+ (n:Int)).toNat else min v.toNat n):Nat):Int)
 by_cases hv:v<0;simp only[if_pos hv];lia;simp only[if_neg hv];lia
theorem Ti(lo hi:Option Int)(n:Nat):Builtin.Slice.sliceAdjust lo hi 1 (n:Int)=(((bI n 0 lo:Nat):Int),((bI n n hi:Nat):Int)):=by
 have h1:¬((1:Int)<0):=by lia
 unfold Builtin.Slice.sliceAdjust;simp only[h1,dF];refine Prod.ext ?_ ?_;cases lo with|none=>rfl|some v=>exact Mk v n 0
 cases hi with|none=>rfl|some v=>exact Mk v n n
theorem Tj(i j:Nat):Builtin.Slice.slicePlaces (i:Int) (j:Int) 1=j-i:=by
 unfold Builtin.Slice.slicePlaces;have h1:(1:Int)>0:=by lia
 simp only[h1,b9,Int.ediv_one];split<;>lia
theorem Ml{v:aa}{o:Option Int}{Q:Option Int->af->Prop}(p:IsPart v o)(h:Q o s):wpAny (model prog w) A (Builtin.Slice.slicePartIndex v) Q E s:=by
 cases p with|none=>exact slicePart_none h|int i t=>exact slicePart_int h
theorem Mm{sl:ah}{vl vu:aa}{lo hi:Option Int}{n:Nat}{Q:Int×Int×Nat->af->Prop}(hs:s.heap.IsSliceOf sl vl vu .none)(pl:IsPart vl lo)(pu:IsPart vu hi)
 (h:Q (((bI n 0 lo:Nat):Int),1,bI n n hi-bI n 0 lo) s):wpAny (model prog w) A (Builtin.Slice.sliceApplied (.ref sl) (pure (n:Int))) Q E s:=by
 obtain⟨os,hos,hcs,hds⟩:=id hs;unfold Builtin.Slice.sliceApplied Builtin.Slice.sliceFields;refine aJ (aJ (jf hos hds (x:=vl) rfl (aJ (jf hos hds (x:=vu) rfl (aJ (jf hos hds (x:=.none) rfl (bg ?_)))))));refine aJ (slicePart_none ?_);show wpAny _ _ (if((1:Int)==0)=true then _ else _) _ _ s;rw[if_neg (by decide)];refine aJ (Ml pl (aJ (Ml pu (aJ (bg ?_)))));show wpAny _ _ (match Builtin.Slice.sliceAdjust lo hi 1 (n:Int)with|(lo,hi)=>pure (lo,(1:Int),Builtin.Slice.slicePlaces lo hi 1)) _ _ s;rw[Ti lo hi n];show wpAny _ _ (pure (((bI n 0 lo:Nat):Int),(1:Int),Builtin.Slice.slicePlaces ((bI n 0 lo:Nat):Int) ((bI n n hi:Nat):Int) 1)) _ _ s;rw[Tj];exact bg h
theorem Tn(xs:Array aa)(i k:Nat):((List.range k).filterMap λ(m:Nat)=>xs[((i:Int)+ (m:Int)*1).toNat]?).toArray=((xs.toList.drop i).take k).toArray:=by
 have e:(λ(m:Nat)=>xs[((i:Int)+ (m:Int)*1).toNat]?)=λm=>xs[i+m]?:=by
  funext m;have:((i:Int)+ (m:Int)*1).toNat=i+m:=by lia
  rw[this]
 rw[e];have:=pick_run xs i k;rw[List.filterMap_map]at this;have e2:((λx=>xs[x]?)∘λx=>i+x)=λm=>xs[i+m]?:=rfl;rw[e2]at this;rw[this]
theorem gu{t sl:ah}{items:Array aa}{vl vu:aa}{lo hi:Option Int}{Q:aa->af->Prop}(ht:IsTup s.heap t items)(hs:s.heap.IsSliceOf sl vl vu .none)(pl:IsPart vl lo)(pu:IsPart vu hi)
 (hw:¬(bI items.size 0 lo=0/\bI items.size items.size hi=items.size))
 (h:Q (.ref s.heap.objs.size) {s with heap:=s.heap.push {cls:=.type "tuple",data:=.seq ((items.toList.drop (bI items.size 0 lo)).take (bI items.size items.size hi-bI items.size 0 lo)).toArray}})
 (hsz:items.size<=sizeLine):wpAny (model prog w) A (getItem (.ref t) (.ref sl)) Q E s:=by
 have lC:sizeOk (.seq ((items.toList.drop (bI items.size 0 lo)).take (bI items.size items.size hi-bI items.size 0 lo)).toArray):=by show((items.toList.drop (bI items.size 0 lo)).take (bI items.size items.size hi-bI items.size 0 lo)).toArray.size<=sizeLine;rw[eY,List.length_take,List.length_drop,zw];lia
 have hj:bI items.size items.size hi<=items.size:=Th _ _ (bq _) hi;obtain⟨os,hos,hcs,hds⟩:=id hs;have Hr:s.TypeIs (.ref sl) "slice":=⟨os,hos,hcs⟩
 unfold getItem
 try with_reducible refine nA ?_
 first|refine aJ (bg ?_)|skip
 refine aJ (wpAny_sequenceKey ht.typeIs (by decide) ?_);refine aJ (pQ (name:=Str.ofString "__getitem__") ht.typeIs xY
  (kG xY ht.typeIs entry_tuple_getitem ?_ (args_tuple_getitem _ _)))
 show wpAny _ _ (Builtin.Tuple.tupleItemsOf (.ref t) >>= _) _ _ s;refine aJ (tupleItemsOf_ ht ?_);refine aJ (Dv Hr ?_);rw[if_pos (by decide)];refine aJ (Mm hs pl pu ?_);have hno:¬((((bI items.size 0 lo:Nat):Int)==0&& (1:Int)==1&& (bI items.size items.size hi-bI items.size 0 lo)==items.size)):=by intro q;rw[bM,bM]at q;have q1:((bI items.size 0 lo:Nat):Int)=0:=eq_of_beq q.1.1;have q2:bI items.size items.size hi-bI items.size 0 lo=items.size:=eq_of_beq q.2;exact hw ⟨by lia,by lia⟩
 show wpAny _ _ (if(((bI items.size 0 lo:Nat):Int)==0&& (1:Int)==1&& (bI items.size items.size hi-bI items.size 0 lo)==items.size)=true then _ else _) _ _ s;rw[if_neg hno,Tn];first
  |exact aJ (m:=Builtin.Tuple.tupleExact _) (k9 (bg ⟨_,rfl,bg h⟩) lC)
  |exact aJ (m:=Builtin.Tuple.tupleExact _) (k9 (aJ (bg (bg ⟨_,rfl,bg h⟩))) lC)
  |exact aJ (aJ (m:=Builtin.Tuple.tupleExact _) (k9 (bg (bg ⟨_,rfl,bg h⟩)) lC))
  |exact aJ (aJ (m:=Builtin.Tuple.tupleExact _) (k9 (bg ⟨_,rfl,bg h⟩) lC))
end
end HT
namespace L2
open PySem PySem.Spec PyProof.Rows
noncomputable abbrev TO:=St->Hp->(Option Int->Hp->Prop)->Prop
noncomputable def PO(X:Cx)(e:Option ao)(t:TO):Prop:=
 ∀(pins:List (ah×Obj))(s:af)(σ:St)(H:Hp)(Q:Option Int->Hp->Prop),Inv X pins σ H s->t σ H Q->
  wpAny (model X.prog X.w) X.A (evalPart e X.env) (λu s'=>∃o H',Inv X pins σ H' s'/\IsPart u o/\Q o H') X.xe s
noncomputable def To:TO:=λ_ H Q=>Q aC H
noncomputable def Af(t:TE):TO:=λσ H Q=>t σ H λx H1=>∃i,x=.int i/\Q (aB i) H1
section
variable{X:Cx}{e:ao}{te:TE}{lo hi:Option ao}{tl th:TO}{pos p2:Pos}
theorem Tp:PO X aC To:=by intro pins s σ H Q I h;rw[evalPart_none];exact bg ⟨aC,H,I,.none,h⟩
theorem Tq(h:PE X e te):PO X (aB e) (Af te):=by intro pins s σ H Q I hw;rw[evalPart_some];refine bG (h pins s σ H _ I hw) λu s1 z9=>z9.el λx H1 I1 r1 q1=>?_;obtain⟨i,rfl,q⟩:=q1;obtain⟨t,rfl⟩:=r1;exact⟨aB i,H1,I1,.int i t,q⟩
noncomputable def qW(X:Cx)(r:V->Option Int->Option Int->Hp->VK->Prop):Prop:=
 ∀(pins:List (ah×Obj))(s:af)(σ:St)(H:Hp)(x:V)(v vl vu:aa)(lo hi:Option Int)(sl:ah)(Q:VK),Inv X pins σ H s->RelV x v->s.heap.IsSliceOf sl vl vu .none->IsPart vl lo->IsPart vu hi->r x lo hi H Q->
  ∃T id,typeLookup (.type T) "__getitem__" = pure (aB (.builtin id))/\s.TypeIs v T/\wpAny (model X.prog X.w) X.A (getItem v (.ref sl)) (EP X pins σ Q) X.xe s
theorem qW.or{r r':V->Option Int->Option Int->Hp->VK->Prop}(h:qW X r)(h':qW X r'):qW X (λx lo hi H Q=>r x lo hi H Q\/r' x lo hi H Q):=by
 intro pins s σ H x v vl vu lo hi sl Q I rx hs pl pu q;rcases q with q|q
 exact h pins s σ H x v vl vu lo hi sl Q I rx hs pl pu q;exact h' pins s σ H x v vl vu lo hi sl Q I rx hs pl pu q
noncomputable def Tr(r:V->Option Int->Option Int->Hp->VK->Prop)(te:TE)(tl th:TO):TE:=λσ H Q=>te σ H λx H1=>tl σ H1 λl H2=>th σ H2 λu H3=>r x l u H3 Q
theorem Tt{r:V->Option Int->Option Int->Hp->VK->Prop}(hr:qW X r)(he:PE X e te)(hl:PO X lo tl)(hu:PO X hi th):PE X (.Subscript e (.Slice lo hi aC p2) pos) (Tr r te tl th):=by intro pins s σ H Q I h;refine Subscript_ (bG (he pins s σ H _ I h) λv s1 z9=>z9.el λx H1 I1 r1 q1=>?_);refine wpAny_Slice (bG (hl pins s1 σ H1 _ I1 q1) λvl s2 ⟨l,H2,I2,pl,q2⟩=>bG (hu pins s2 σ H2 _ I2 q2) λvu s3 dU=>?_);obtain⟨u,H3,I3,pu,q3⟩:=dU;rw[evalPart_none];refine bg ?_;have I4:Inv X pins σ H3 {s3 with heap:=s3.heap.push {cls:=.type "slice",data:=.fields #[vl,vu,.none]}}:=I3.kept (t':=s3.toks) λb ob q=>dH _ q;obtain⟨T,id,hT,ht,hg⟩:=hr pins {s3 with heap:=s3.heap.push {cls:=.type "slice",data:=.fields #[vl,vu,.none]}} σ H3 x v vl vu l u s3.heap.objs.size Q I4 r1 (Heap.IsSliceOf.new ..) pl pu q3;show wpAny (model X.prog X.w) X.A (subscriptTail e (.Slice lo hi aC p2) v (.ref s3.heap.objs.size)) (EP X pins σ Q) X.xe {s3 with heap:=s3.heap.push {cls:=.type "slice",data:=.fields #[vl,vu,.none]}};exact tail_any (ops:=[.ref s3.heap.objs.size,v]) ht hT hg (by with_unfolding_all rfl)
noncomputable def jX(xs:List V)(lo hi:Option Int):List V:=(xs.drop (HT.bI xs.length 0 lo)).take (HT.bI xs.length xs.length hi-HT.bI xs.length 0 lo)
theorem Mn(xs:List V)(lo hi:Option Int):(jX xs lo hi).length<=xs.length:=by unfold jX;rw[List.length_take,List.length_drop];lia
noncomputable def Ag(K:aO):V->Option Int->Option Int->Hp->VK->Prop:=λx lo hi H Q=>∃a xs,x=.ref a/\bZ K H a xs/\
 ¬(HT.bI xs.length 0 lo=0/\HT.bI xs.length xs.length hi=xs.length)/\∀p,H p=aC->Q (.ref p) (upd H p (.tup (jX xs lo hi)))
theorem Tu:qW X (Ag X.K):=by
 intro pins s σ H x v vl vu lo hi sl Q I rx hs pl pu h;obtain⟨a,xs,rfl,hx,hw,q⟩:=h;cases rx;obtain⟨its,r,ht,hz⟩:=I.tuple hx;have hlen:its.toArray.size=xs.length:=by rw[eY];exact r.length.symm
 refine⟨"tuple",_,xY.lookup,ht.typeIs,?_⟩;refine HT.gu ht hs pl pu (by rw[hlen];exact hw) ?_ (by rw[hlen];exact hz);rw[hlen];refine⟨.ref s.heap.objs.size,_,I.laid (t':=s.toks) (o:=.tup (jX xs lo hi)) (λb ob q=>dH _ q) (bq _) ?_,rfl,q _ (I.hok.fresh (bq _))⟩;exact⟨iY (Mn xs lo hi) hz,_,(r.drop (HT.bI xs.length 0 lo)).take (HT.bI xs.length xs.length hi-HT.bI xs.length 0 lo),nq.new _ _⟩
end
noncomputable def iw(n:Nat)(i:Int):Option Nat:=if 0<=i then(if i<n then aB i.toNat else aC)else if -(n:Int)<=i then aB (i+n).toNat else aC
noncomputable def cz{α:Type}(xs:List α)(i:Int):Option α:=(iw xs.length i).bind λj=>xs[j]?
theorem Mp{n:Nat}{i:Int}{j:Nat}(h:iw n i=aB j):seqIndex? i n=aB j/\j<n/\-(n:Int)<=i/\i<n:=by unfold iw at h;by_cases h0:0<=i;rw[if_pos h0]at h;by_cases h1:i<n;rw[if_pos h1]at h;have e:i.toNat=j:=jN h;exact⟨by rw[Dy h0 h1,e],by lia,by lia,h1⟩;rw[if_neg h1]at h;cases h;rw[if_neg h0]at h;by_cases h1:-(n:Int)<=i;rw[if_pos h1]at h;have e:(i+n).toNat=j:=jN h;exact⟨by rw[seqIndex_neg (by lia) h1,e],by lia,h1,by lia⟩;rw[if_neg h1]at h;cases h
theorem Mq{α:Type}{xs:List α}{i:Int}{v:α}(h:cz xs i=aB v):∃j,seqIndex? i xs.length=aB j/\xs[j]?=aB v/\j<xs.length/\-(xs.length:Int)<=i/\i<xs.length:=by
 unfold cz at h;cases e:iw xs.length i with
 |none=>rw[e]at h;cases h
 |some j=>
  rw[e]at h;obtain⟨h1,h2,h3,h4⟩:=Mp e;exact⟨j,h1,h,h2,h3,h4⟩
theorem pY{α:Type}{xs:List α}{j:Nat}{v:α}(h:xs[j]?=aB v):cz xs (j:Int)=aB v:=by
 have hj:j<xs.length:=(jK.mp h).1;have e:iw xs.length (j:Int)=aB j:=by unfold iw;rw[if_pos (by lia),if_pos (by lia)];simp
 unfold cz;rw[e];exact h
theorem Tv{α:Type}(xs:List α)(v:α):cz (xs++[v]) (-1)=aB v:=by
 have hl:(xs++[v]).length=xs.length+1:=by simp
 have e:iw (xs++[v]).length (-1)=aB xs.length:=by unfold iw;rw[hl,if_neg (by decide),if_pos (by lia)];congr 1;lia
 unfold cz;rw[e];show(xs++[v])[xs.length]?=aB v;simp
noncomputable def Hs(b:ao):Prop:=∀o i,subscripted b false o i=operate [o,i] (getItem o i)
noncomputable def pZ(X:Cx)(r:R2):Prop:=
 ∀(value slice:ao)(pins:List (ah×Obj))(s:af)(σ:St)(H:Hp)(x y:V)(v u:aa)(Q:VK),Inv X pins σ H s->RelV x v->RelV y u->r x y H Q->
  subscripted slice false v u=operate [v,u] (getItem v u)->wpAny (model X.prog X.w) X.A (subscriptTail value slice v u) (EP X pins σ Q) X.xe s
noncomputable def Mr(X:Cx)(id:String)(r:V->List V->Hp->VK->Prop):Prop:=
 ∀(pins:List (ah×Obj))(s:af)(σ:St)(H:Hp)(x:V)(xs:List V)(v:aa)(us:List aa)(Q:VK),Inv X pins σ H s->RelV x v->Vals xs us->r x xs H Q->
  wpAny (model X.prog X.w) X.A (call (.builtin id) (v::us)) (EP X pins σ Q) X.xe s
section
variable{X:Cx}{a b:ao}{ta tb:TE}{pos:Pos}
theorem pZ.or{r r':R2}(h:pZ X r)(h':pZ X r'):pZ X (λx y H Q=>r x y H Q\/r' x y H Q):=by
 intro value slice pins s σ H x y v u Q I rx ry q hs;rcases q with q|q
 exact h value slice pins s σ H x y v u Q I rx ry q hs;exact h' value slice pins s σ H x y v u Q I rx ry q hs
theorem Ah{r:R2}(hr:pZ X r)(ha:PE X a ta)(hb:PE X b tb)(hs:Hs b):PE X (.Subscript a b pos) (Ex r ta tb):=by intro pins s σ H Q I h;exact Subscript_ (vE ha hb I h λv u s2 x y H2 I2 rx ry q=>hr a b pins s2 σ H2 x y v u Q I2 rx ry q (hs _ _))
noncomputable def Ai(K:aO):R2:=λx y H Q=>∃p xs i v,x=.ref p/\y=.int i/\cN K H p xs/\cz xs i=aB v/\Q v H
noncomputable def Aj(K:aO):R2:=λx y H Q=>∃p xs i v,x=.ref p/\y=.int i/\bZ K H p xs/\cz xs i=aB v/\Q v H
theorem Tw:pZ X (Ai X.K):=by
 intro value slice pins s σ H x y v u Q I rx ry h hs;obtain⟨p,xs,i,z,rfl,rfl,hq,he,q⟩:=h;cases rx;obtain⟨t,rfl⟩:=ry;obtain⟨its,r,pl,hz⟩:=I.list hq;obtain⟨j,h1,h2,h3,h4,h5⟩:=Mq he;obtain⟨w,ew,rw'⟩:=r.get h2;have hl:=r.length;have hn:=z0;have fin:EP X pins σ Q w s:=⟨z,H,I,rw',q⟩
 by_cases h0:0<=i;have hj:i.toNat=j:=by rw[Dy h0 h5]at h1;exact jN h1
 exact item_listR pl.isList h0 (by lia) (by rw[hj];simpa using ew) fin hs;have hj:(i+ (its.toArray.size:Int)).toNat=j:=by rw[seqIndex_neg (by lia) h4]at h1;rw[eY,<-hl];exact jN h1
 exact subscriptTail_builtinR (x:=w) pl.isList.typeIs slot_list_getitem.lookup
  (wpAny_getItem_list_neg (Q:=λr s'=>r=w/\EP X pins σ Q r s') pl.isList (by lia) (by rw[eY]<;>lia) (by lia) (by rw[hj];simpa using ew) ⟨rfl,fin⟩) hs
theorem Tz:pZ X (Aj X.K):=by
 intro value slice pins s σ H x y v u Q I rx ry h hs;obtain⟨p,xs,i,z,rfl,rfl,hq,he,q⟩:=h;cases rx;obtain⟨t,rfl⟩:=ry;obtain⟨its,r,pl,hz⟩:=I.tuple hq;obtain⟨j,h1,h2,h3,h4,h5⟩:=Mq he;obtain⟨w,ew,rw'⟩:=r.get h2;have hl:=r.length;have hn:=z0;have fin:EP X pins σ Q w s:=⟨z,H,I,rw',q⟩
 exact subscriptTail_builtinR (x:=w) pl.typeIs slot_tuple_getitem.lookup
  (getItem_tuple (j:=j) (Q:=λr s'=>r=w/\EP X pins σ Q r s') pl (by lia) (by lia) (by rw[eY,<-hl];exact h1) (by simpa using ew) ⟨rfl,fin⟩) hs
theorem TF(its:List aa)(n j:Nat)(u:aa):Obj.mapSeq (·.setIfInBounds j u) {cls:=.type "list",data:=.seq its.toArray n} ={cls:=.type "list",data:=.seq (its.set j u).toArray n}:=by simp[Obj.mapSeq]
theorem Inv.lst{pins:List (ah×Obj)}{σ:St}{H:Hp}{s:af}{p:ah}{xs:List V}(I:Inv X pins σ H s)(h:H p=aB (.lst xs)) :
 ∃(its:List aa) (n:Nat),Vals xs its/\s.heap.get? p=aB {cls:=.type "list",data:=.seq its.toArray n}/\xs.length<=sizeLine:=by
 obtain⟨z,its,n,r,e⟩:=I.hok p _ h;exact⟨its,n,r,e,z⟩
theorem Inv.vJ{pins:List (ah×Obj)}{σ:St}{H:Hp}{s:af}{p:ah}{xs ys:List V}{its its':List aa}{n n':Nat}{f:Obj->Obj}(I:Inv X pins σ H s)(h:H p=aB (.lst xs))
 (ho:s.heap.get? p=aB {cls:=.type "list",data:=.seq its.toArray n}) (hf:f {cls:=.type "list",data:=.seq its.toArray n} ={cls:=.type "list",data:=.seq its'.toArray n'}) (r:Vals ys its') (hz:ys.length<=sizeLine) (t:Nat) :
 Inv X pins σ (upd H p (.lst ys)) {s with heap:=s.heap.update p f,toks:=t}:=by
 have e:(s.heap.update p f).get? p=aB {cls:=.type "list",data:=.seq its'.toArray n'}:=by rw[zp f ho (by rw[hf]<;>rfl),hf]
 refine I.write (x:=p) (e:=p) (by rw[h];trivial) (.inl rfl) (λb u hb q=>(Heap.get?_update_other _ _ (gf hb)).trans q) ⟨_,e⟩ ?_;exact⟨hz,its',n',r,e⟩
noncomputable def Ak:V->V->V->Hp->(Hp->Prop)->Prop:=λo i v H Q=>∃p xs k j,o=.ref p/\i=.int k/\H p=aB (.lst xs)/\iw xs.length k=aB j/\Q (upd H p (.lst (xs.set j v)))
theorem TH:jR X Ak:=by
 intro pins s σ H o i v ov iv u Q I ro ri rv h;obtain⟨p,xs,k,j,rfl,rfl,hp,hj,q⟩:=h;cases ro;obtain⟨t,rfl⟩:=ri;obtain⟨its,n,r,ho,hz⟩:=I.lst hp;obtain⟨h1,h2,h3,h4⟩:=Mp hj;have hl:=r.length;have hn:=z0;have I':Inv X pins σ (upd H p (.lst (xs.set j v))) {s with heap:=s.heap.update p (Obj.mapSeq (·.setIfInBounds j u))}:=
  I.vJ hp ho (TF its n j u) (r.set rv j) (by rw[zh];exact hz) s.toks
 by_cases h0:0<=k;have hk:k.toNat=j:=by rw[Dy h0 h4]at h1;exact jN h1
 exact PySem.W.ki_setAt ho h0 (by lia) (by rw[eY,<-hl];exact h4) (by rw[hk];exact⟨_,I',q⟩);have hk:(k+ (its.toArray.size:Int)).toNat=j:=by rw[seqIndex_neg (by lia) h3]at h1;rw[eY,<-hl];exact jN h1
 exact PySem.W.ki_setBack ho (by lia) (by rw[eY,<-hl];exact h3) (by lia) (by rw[hk];exact⟨_,I',q⟩)
theorem TJ(lo hi:Option Int)(n:Nat):(sliceBounds lo hi aC n).1=((HT.bI n 0 lo:Nat):Int)/\(sliceBounds lo hi aC n).2.1=((HT.bI n n hi:Nat):Int)/\(sliceBounds lo hi aC n).2.2=1:=by
 refine⟨?_,?_,rfl⟩;cases lo with
 |none=>simp[sliceBounds,HT.bI]
 |some i=>
  simp only[sliceBounds,HT.bI,Option.getD_none,show(1:Int)>0 by decide,b9];by_cases h:i<0;simp only[h,b9]<;>lia;simp only[h,dF]<;>lia
 cases hi with
 |none=>simp[sliceBounds,HT.bI]
 |some i=>
  simp only[sliceBounds,HT.bI,Option.getD_none,show(1:Int)>0 by decide,b9];by_cases h:i<0;simp only[h,b9]<;>lia;simp only[h,dF]<;>lia
theorem TL(its:List aa)(lo hi:Option Int):slicePick its.toArray lo hi aC=((its.drop (HT.bI its.length 0 lo)).take (HT.bI its.length its.length hi-HT.bI its.length 0 lo)).toArray:=by obtain⟨h1,h2,h3⟩:=TJ lo hi its.toArray.size;unfold slicePick;rw[h1,h2,h3];simp only[sliceRange_one,pick_run,eY]<;>rfl
noncomputable def Al(K:aO):V->Option Int->Option Int->Hp->VK->Prop:=λx lo hi H Q=>∃a xs,x=.ref a/\cN K H a xs/\∀p,H p=aC->Q (.ref p) (upd H p (.lst (jX xs lo hi)))
theorem TM:qW X (Al X.K):=by intro pins s σ H x v vl vu lo hi sl Q I rx hs pl pu h;obtain⟨a,xs,rfl,hx,q⟩:=h;cases rx;obtain⟨its,r,ht,hz⟩:=I.list hx;have hlen:=r.length;refine⟨"list",_,slot_list_getitem.lookup,ht.isList.typeIs,?_⟩;refine wpAny_getItem_list_slice ht.isList hs pl pu .none (by simp) ?_ (by rw[eY]<;>lia);rw[TL,<-hlen];refine⟨.ref s.heap.objs.size,_,I.laid (t':=s.toks) (o:=.lst (jX xs lo hi)) (λb ob q=>dH _ q) (bq _) ?_,rfl,q _ (I.hok.fresh (bq _))⟩;exact⟨iY (Mn xs lo hi) hz,_,0,(r.drop (HT.bI xs.length 0 lo)).take (HT.bI xs.length xs.length hi-HT.bI xs.length 0 lo),gh _ rfl⟩
theorem TN:bK X (.builtin "len") (λxs H Q=>∃p ys,xs=[.ref p]/\(cN X.K H p ys\/bZ X.K H p ys)/\Q (.int ys.length) H):=by
 intro pins s σ H xs us Q I r h;obtain⟨p,ys,rfl,hq,q⟩:=h;obtain⟨u,rfl,rx⟩:=vals1 r;cases rx;have hn:=z0;rcases hq with hq|hq
 obtain⟨its,r',pl,hz⟩:=I.list hq;have hlen:=r'.length;exact Calls.call_len_list pl.isList (by simp only[eY]<;>lia) ⟨.int ys.length,H,I.tok _,⟨s.toks+1,by rw[eY,hlen]⟩,q⟩;obtain⟨its,r',pl,hz⟩:=I.tuple hq;have hlen:=r'.length;exact len_tuple pl (by simp only[eY]<;>lia) ⟨.int ys.length,H,I.tok _,⟨s.toks+1,by rw[eY,hlen]⟩,q⟩
theorem bK.or{f:aa}{r r':List V->Hp->VK->Prop}(h:bK X f r)(h':bK X f r'):bK X f (λxs H Q=>r xs H Q\/r' xs H Q):=by
 intro pins s σ H xs us Q I rs q;rcases q with q|q
 exact h pins s σ H xs us Q I rs q;exact h' pins s σ H xs us Q I rs q
theorem TQ:bK X (.type "list") (λxs H Q=>∃p ys,xs=[.ref p]/\(cN X.K H p ys\/bZ X.K H p ys)/\∀l,H l=aC->Q (.ref l) (upd H l (.lst ys))):=by
 intro pins s σ H xs us Q I r h;obtain⟨p,ys,rfl,hq,q⟩:=h;obtain⟨u,rfl,rx⟩:=vals1 r;cases rx;have fin:∀(its:List aa),Vals ys its->ys.length<=sizeLine->∀(h':az)(c':Nat),(∀b o',s.heap.get? b=aB o'->h'.get? b=aB o')->
  h'.get? s.heap.objs.size=aB {cls:=.type "list",dict:=aC,data:=.seq its.toArray c',slots:=#[]}->EP X pins σ Q (.ref s.heap.objs.size) {s with heap:=h'}:=λits r' hz h' c' kp e=>
  ⟨.ref s.heap.objs.size,_,I.laid (t':=s.toks) kp (bq _) (show aZ X.prog X.w _ h' _ (.lst ys)from⟨hz,its,c',r',e⟩),rfl,q _ (I.hok.fresh (bq _))⟩
 rcases hq with hq|hq;obtain⟨its,r',pl,hz⟩:=I.list hq;have hlen:=r'.length;obtain⟨o,ho,hc,n,hd⟩:=pl.isList;exact call_list_seq p (.inl rfl) ho hc hd (λh' c' kp e=>fin its r' hz h' c' kp e) (by simp only[eY]<;>lia);obtain⟨its,r',pl,hz⟩:=I.tuple hq;have hlen:=r'.length;obtain⟨o,ho,hc,n,hd⟩:=pl;exact call_list_seq p (.inr rfl) ho hc hd (λh' c' kp e=>fin its r' hz h' c' kp e) (by simp only[eY]<;>lia)
theorem TR:bK X (.type "tuple") (λxs H Q=>∃p ys,xs=[.ref p]/\((cN X.K H p ys/\∀l,H l=aC->Q (.ref l) (upd H l (.tup ys)))\/(bZ X.K H p ys/\Q (.ref p) H))):=by
 intro pins s σ H xs us Q I r h;obtain⟨p,ys,rfl,h⟩:=h;obtain⟨u,rfl,rx⟩:=vals1 r;cases rx;rcases h with⟨hq,q⟩|⟨hq,q⟩
 obtain⟨its,r',pl,hz⟩:=I.list hq;have hlen:=r'.length;refine call_tuple_list pl.isList (λh' kp=>?_) (by simp only[eY]<;>lia);have I1:Inv X pins σ H {s with heap:=h'}:=I.kept (t':=s.toks) kp;have I2:Inv X pins σ (upd H h'.objs.size (.tup ys)) {s with heap:=h'.push {cls:=.type "tuple",data:=.seq its.toArray}}:=
  I1.laid (t':=s.toks) (λb o e=>dH _ e) (bq _) (show aZ X.prog X.w _ _ _ (.tup ys)from⟨hz,its,r',nq.new _ _⟩)
 exact⟨.ref h'.objs.size,_,I2,rfl,q _ (I1.hok.fresh (bq _))⟩;obtain⟨its,r',pl,hz⟩:=I.tuple hq;exact call_tuple_same pl ⟨.ref p,H,I,rfl,q⟩
noncomputable def Ms(K:aO)(T:String)(x:V)(H:Hp):Prop:=match x with
 |.str _=>T = "str"
 |.int _=>T = "int"
 |.ref p=>(T = "list"/\∃xs,cN K H p xs)\/(T = "tuple"/\∃xs,bZ K H p xs)\/
  (T = "dict"/\((∃kvs,H p=aB (.dK kvs))\/∃kvs,H p=aB (.dT kvs)))\/(T = "set"/\∃S n,H p=aB (.set S n))
 |_=>False
theorem TU{pins:List (ah×Obj)}{σ:St}{H:Hp}{s:af}{T:String}{x:V}{v:aa}(I:Inv X pins σ H s)(r:RelV x v)(ty:Ms X.K T x H) :
 s.TypeIs v T/\∀a,v=.ref a->∃ob,s.heap.get? a=aB ob/\ob.dict=aC:=by
 cases x with
 |str z=>
  obtain⟨t,rfl⟩:=r;cases(show T = "str"from ty);exact⟨typeIs_str s z t,λ_ e=>nomatch e⟩
 |int i=>
  obtain⟨t,rfl⟩:=r;cases(show T = "int"from ty);exact⟨typeIs_int s i t,λ_ e=>nomatch e⟩
 |ref p=>
  cases r;rcases ty with⟨rfl,xs,hq⟩|⟨rfl,xs,hq⟩|⟨rfl,hk⟩|⟨rfl,S,n,hk⟩
  obtain⟨its,_,pl,_⟩:=I.list hq;refine⟨pl.isList.typeIs,λa e=>?_⟩;cases e;obtain⟨o,n,e,c,hd,_⟩:=pl;exact⟨o,e,hd⟩;obtain⟨its,_,⟨o,h1,h2,_,h3⟩,_⟩:=I.nN hq;refine⟨⟨o,h1,h2⟩,λa e=>?_⟩;cases e;exact⟨o,h1,h3⟩;have z:∃o,s.heap.get? p=aB o/\o.ExactDict:=by rcases hk with⟨kvs,hk⟩|⟨kvs,hk⟩;obtain⟨_,_,_,_,o,_,_,e,ex,_⟩:=I.hok p _ hk;exact⟨o,e,ex⟩;obtain⟨_,_,_,_,o,_,_,e,ex,_⟩:=I.hok p _ hk;exact⟨o,e,ex⟩
  obtain⟨o,e,ex⟩:=z;refine⟨⟨o,e,ex.1⟩,λa e2=>?_⟩;cases e2;exact⟨o,e,ex.2.1⟩;obtain⟨o,_,_,_,e,ex,_⟩:=I.hok p _ hk;refine⟨⟨o,e,ex.1⟩,λa e2=>?_⟩;cases e2;exact⟨o,e,ex.2.1⟩
 |_=>exact False.elim ty
noncomputable def TV(K:aO)(T:String)(r:V->List V->Hp->VK->Prop)(to:TE)(t:TA):TE:=λσ H Q=>to σ H λx H1=>Ms K T x H1/\t σ H1 λxs H2=>r x xs H2 Q
variable{o e:ao}{es:List ao}{to:TE}{t:TA}{name:Str}{apos cpos:Pos}{T id:String}{r:V->List V->Hp->VK->Prop}
theorem Am(pa:PlainAttrs T)(slot:Slot T name id)(hty:typeOf (.builtin id)=pure (.type "method_descriptor"))(hm:Mr X id r)(ho:PE X o to)(ha:PA X (e::es) t)
 (hbase:autoParam (attributeBase o name X.env (eval o X.env)=eval o X.env) L2.aR._auto_1)
 (hfew:autoParam (((backTo cpos (starEach (e::es) X.env)).all (λx=>!x.1)&& (backToKw cpos (keywordEach [] X.env)).all (λx=>x.1.isSome)
   && decide ((e::es).length+ ([]:List Keyword).length+ (if([]:List Keyword).isEmpty then 0 else 1)<30))=true) L2.aR._auto_1)
 (hline:autoParam ((apos.endLine==cpos.line)=true) L2.aR._auto_1) (hs:autoParam (starEach (e::es) X.env=(false,eval e X.env)::starEach es X.env) L2.aR._auto_1) (hplain:autoParam ((backTo cpos (starEach es X.env)).any (·.1)=false) L2.aR._auto_1) :
 PE X (.Call (.Attribute o name apos) (e::es) [] cpos) (TV X.K T r to t):=by
 intro pins s σ H Q I h;refine wpAny_Call_method_late hbase hfew hline rfl (bG (ho pins s σ H _ I h) λv s1 z9=>z9.el λx H1 I1 r1 dU=>?_);obtain⟨ty,q1⟩:=dU;obtain⟨h1,h2⟩:=TU I1 r1 ty;refine⟨T,id,pa,slot,hty,h1,h2,?_⟩;have hA:=ha cpos pins s1 σ H1 _ I1 q1;rw[hs]at hA ⊢;refine Calls.callWith_builtin (by show(false|| (backTo cpos (starEach es X.env)).any (·.1))=false;rw[hplain]<;>rfl) (Calls.evalArgs_plain ?_);exact bG hA λus s2 z9=>z9.el λvs H2 I2 r2 q2=>hm pins s2 σ H2 x vs v us Q I2 r1 r2 q2
/- xs.append(e),list.index on a An tuple .. are Mr facts of 06m -/
end
noncomputable def Mu(X:Cx)(id:String)(r:V->List V->Hp->VK->Prop):Prop:=
 ∀(pins:List (ah×Obj))(s:af)(σ:St)(H:Hp)(x:V)(xs:List V)(v:aa)(us:List aa)(Q:VK),Inv X pins σ H s->RelV x v->Vals xs us->r x xs H Q->
  wpAny (model X.prog X.w) X.A (call (.builtin id) (v::us)) (EP X pins σ Q) X.xe s
theorem Vals.one:∀{x:V} {us:List aa},Vals [x] us->∃u,us=[u]/\RelV x u|_,_,.cons r .nil=>⟨_,rfl,r⟩
theorem Vals.rep{xs:List V}{us:List aa}(h:Vals xs us):∀k:Nat,Vals (bf k xs).flatten (bf k us).flatten
 |0=>.nil
 |k+1=>by
  rw[qq,qq,xO,xO];exact Vals.append h (Vals.rep h k)
theorem Mv(its:List aa):∀(k:Nat) (acc:List aa),
 List.foldl (λx1 x2=>x1++x2) acc.toArray (bf k its.toArray)=(acc++(bf k its).flatten).toArray
 |0,acc=>by simp
 |k+1,acc=>by
  have e:acc.toArray++its.toArray=(acc++its).toArray:=by simp
  have e2:(acc++its)++(bf k its).flatten=acc++(bf (k+1) its).flatten:=by rw[qq,xO,vd]
  rw[<-e2,<-Mv its k (acc++its),<-e,qq,List.foldl_cons]
section
variable{X:Cx}{pins:List (ah×Obj)}{σ:St}{H:Hp}{s:af}{l b:ah}{xs ys zs:List V}
theorem Inv.Ao{its its':List aa}{n:Nat}{f:Array aa->Array aa}{t':Nat}(I:Inv X pins σ H s)(hH:H l=aB (.lst xs))
 (e:s.heap.get? l=aB {cls:=.type "list",data:=.seq its.toArray n}) (hf:f its.toArray=its'.toArray) (hv:Vals ys its') (hz:ys.length<=sizeLine) :
 Inv X pins σ (upd H l (.lst ys)) {s with heap:=s.heap.update l (Obj.mapSeq f),toks:=t'}:=by
 have q:=PySem.IsL.update e f;rw[hf]at q;refine I.write (x:=l) (e:=l) (by rw[hH];exact trivial) (.inl rfl) (λb' u hb hu=>(Heap.get?_update_other s.heap (Obj.mapSeq f) (gf hb)).trans hu) ⟨_,q⟩ ?_;exact⟨hz,its',_,hv,q⟩
theorem Inv.Aq{its:List aa}{t':Nat}(I:Inv X pins σ H s)(hv:Vals ys its)(hz:ys.length<=sizeLine) :
 Inv X pins σ (upd H s.heap.objs.size (.lst ys)) {s with heap:=s.heap.push {cls:=.type "list",data:=.seq its.toArray},toks:=t'}:=
 I.laid (λ_ _ q=>dH _ q) (bq _) ⟨hz,its,0,hv,gh _ rfl⟩
theorem Inv.fresh(I:Inv X pins σ H s):H s.heap.objs.size=aC:=I.hok.fresh (bq _)
theorem Inv.mC(I:Inv X pins σ H s)(hH:H l=aB (.lst xs)):xs.length<=sizeLine/\∃(its:List aa) (n:Nat),Vals xs its/\xs.length=its.length/\s.heap.get? l=aB {cls:=.type "list",data:=.seq its.toArray n}:=by obtain⟨z,its,n,r,e⟩:=I.hok l _ hH;exact⟨z,its,n,r,r.length,e⟩
theorem Mw{n:Nat}(h:n<=sizeLine):Builtin.List.listTooLong n=false:=by unfold Builtin.List.listTooLong;exact fE (by lia)
end
section
variable{X:Cx}
noncomputable def TX:V->List V->Hp->VK->Prop:=λx vs H Q=>∃l xs y,x=.ref l/\vs=[y]/\H l=aB (.lst xs)/\xs.length<sizeLine/\Q .aI (upd H l (.lst (xs++[y])))
theorem Mx:Mu X "list.append" TX:=by intro pins s σ H x vs v us Q I rx rv h;obtain⟨l,xs,y,rfl,rfl,hH,hz,q⟩:=h;cases rx;obtain⟨u,rfl,ru⟩:=rv.one;obtain⟨z,its,n,r,hl,e⟩:=I.mC hH;refine call_meets F.slot_list_append ⟨_,e,rfl⟩ F.entry_list_append (F.args_list_append_2 _ _) (PySem.list_append l its.toArray n u (by rw[eY];lia)) ⟨e,?_⟩;refine⟨.aI,_,I.Ao (its':=its++[u]) hH e (by simp) (r.append (.cons ru .nil)) ?_,rfl,q⟩;rw[fS,kJ];lia
noncomputable def TY:V->List V->Hp->VK->Prop:=λx vs H Q=>∃l b xs zs,x=.ref l/\vs=[.ref b]/\H l=aB (.lst xs)/\H b=aB (.lst zs)/\xs.length+zs.length<=sizeLine/\Q .aI (upd H l (.lst (xs++zs)))
theorem zx0:Mu X "list.extend" TY:=by
 intro pins s σ H x vs v us Q I rx rv h;obtain⟨l,b,xs,zs,rfl,rfl,hH,hB,hz,q⟩:=h;cases rx;obtain⟨u,rfl,ru⟩:=rv.one;cases ru;obtain⟨z,its,n,r,hl,e⟩:=I.mC hH;obtain⟨z2,its2,n2,r2,hl2,e2⟩:=I.mC hB;have hsz:its.toArray.size+its2.toArray.size<=sizeLine:=by rw[eY,eY];lia
 have nQ:¬(!its.toArray.isEmpty&&Builtin.List.listTooLong (its.toArray.size+its2.toArray.size))=true:=by rw[Mw hsz,DL];exact nJ
 refine call_meets F.slot_list_extend ⟨_,e,rfl⟩ F.entry_list_extend (F.args_list_extend_2 _ _)
  (AutoSeq1.list_extend_list_list_0 l its.toArray n b its2.toArray n2 nQ (by rw[eY];lia) (by lia)) ⟨e,e2,?_⟩
 refine⟨.aI,_,I.Ao (its':=its++its2) hH e (by simp) (r.append r2) ?_,rfl,q⟩;rw[fS];lia
noncomputable def Ar:R2:=λx y H Q=>∃l b xs zs,x=.ref l/\y=.ref b/\H l=aB (.lst xs)/\H b=aB (.lst zs)/\xs.length+zs.length<=sizeLine/\∀p,H p=aC->Q (.ref p) (upd H p (.lst (xs++zs)))
theorem TZ:dW X (binaryOp .Add) Ar:=by
 intro pins s σ H x y v u Q I rx ry h;obtain⟨l,b,xs,zs,rfl,rfl,hH,hB,hz,q⟩:=h;cases rx;cases ry;obtain⟨z,its,n,r,hl,e⟩:=I.mC hH;obtain⟨z2,its2,n2,r2,hl2,e2⟩:=I.mC hB;refine PySem.P.add_list e e2 ?_ (by rw[eY,eY];lia);have ea:its.toArray++its2.toArray=(its++its2).toArray:=by simp
 rw[ea];exact⟨.ref _,_,I.Aq (t':=s.toks) (r.append r2) (by rw[fS];lia),rfl,q _ I.fresh⟩
noncomputable def As:R2:=λx y H Q=>∃l k xs,x=.ref l/\y=.int k/\H l=aB (.lst xs)/\-(2 ^ 63)<=k/\k<2 ^ 63/\xs.length*k.toNat<=sizeLine/\
 ∀p,H p=aC->Q (.ref p) (upd H p (.lst (bf k.toNat xs).flatten))
theorem T3{α:Type}(xs:List α)(k:Nat):(bf k xs).flatten.length=k*xs.length:=by
 induction k with|zero=>simp|succ k ih=>rw[qq,xO,fS,ih,Nat.succ_mul,Nat.add_comm]
theorem T4:dW X (binaryOp .Mult) As:=by
 intro pins s σ H x y v u Q I rx ry h;obtain⟨l,k,xs,rfl,rfl,hH,h1,h2,hz,q⟩:=h;cases rx;obtain⟨t,rfl⟩:=ry;obtain⟨z,its,n,r,hl,e⟩:=I.mC hH;have hlen:its.toArray.size*k.toNat<=sizeLine:=by rw[eY,<-hl];exact hz
 have hcap:¬its.toArray.size*k.toNat> (2 ^ 63-1)/8:=by
  have:(sizeLine:Nat)<=(2 ^ 63-1)/8:=by decide
  lia
 have hfit:¬(!Builtin.List.listFitsIndex k)=true:=by rw[fitsIndex_both h1 h2];exact nJ
 have nQ:¬Builtin.List.listTooLong (its.toArray.size*k.toNat)=true:=by rw[Mw hlen];exact nJ
 have hnew:List.foldl (λx1 x2=>x1++x2) #[] (bf (if its.toArray.isEmpty=true then 0 else k.toNat) its.toArray)=(bf k.toNat its).flatten.toArray:=by
  have f0:∀m:Nat,List.foldl (λx1 x2=>x1++x2) #[] (bf m its.toArray)=(bf m its).flatten.toArray:=λm=>by
   have:=Mv its m [];rw[qx]at this;exact this
  rw[f0];cases its with|nil=>simp|cons a r'=>rw[if_neg (by simp)]
 refine wpAny_binaryOp_repeat_ref (T:="list") (U:="int") (by decide) ⟨_,e,rfl⟩ (λs'=>typeIs_int s' k t) noFill_list_mul F.fills_int_mul F.slot_int_rmul repeat_list F.slot_int_index.lookup
  (call_meets F.slot_int_rmul (typeIs_int s k t) F.entry_int_rmul (F.args_int_rmul_2 _ _) (int___rmul___int_list k t l its.toArray n)
    ⟨e,rfl,⟨_,e,rfl⟩,call_meets F.slot_list_mul ⟨_,e,rfl⟩ F.entry_list_mul (F.args_list_mul_2 _ _) (AutoListH.list___mul___list_int_3 l its.toArray n k t hfit hcap nQ) ⟨e,?_⟩⟩)
 rw[hnew];exact⟨.ref _,_,I.Aq (t':=s.toks) (r.rep k.toNat) (by rw[T3,Nat.mul_comm];exact hz),rfl,q _ I.fresh⟩
end
end L2
namespace My
open PySem PySem.W PySem.Calls PyProof.Rows
theorem T5{P:Params}{h:az}:∀(ns:List Int) (vs:List aa),WellAll P h vs (ns.map WData.int)->IntsAre vs ns:=by
 intro ns;induction ns with
 |nil=>
  intro vs w;rw[nH]at w;cases w;exact .nil
 |cons n ns ih=>
  intro vs w;rw[dz]at w;cases w with
  |cons a b=>
   cases a;exact .cons _ _ (ih _ b)
theorem T6{l:OpenLaw}{n:Nat}(hn:l.most=aB n){P:Params}{h:az}{args:List WData}{vals:List aa}
 (hpre:l.row.toRowW.claim.pre args) (hwl:WellAll P h vals args) :
 ∃a vs ns,vals=[Value.ref a]/\args=[WData.list (ns.map WData.int)]/\h.get? a=aB {cls:=.type "list",data:=.seq vs.toArray}/\IntsAre vs ns/\ns.length<=n:=by
 have hsh:WShape.hasAll [] args [.list .int]=true:=(pre_splitW hpre).1;have hc:l.pre.holds [] {args:=args}=true:=(pre_splitW hpre).2;obtain⟨d,r,rfl,h1,h2⟩:=hasAllW_cons hsh;obtain rfl:=hasAllW_nil h2;obtain⟨xs,rfl,h3⟩:=hasW_list h1;obtain⟨ns,rfl⟩:=items_int h3;have hlen:ns.length<=n:=by
  unfold OpenLaw.pre at hc;have h4:(WTm.not (.lt (.lit (.int (n:Int))) (.len (.arg 0)))).holds [] {args:=[.list (ns.map .int)]}=true:=by have h4:=(holds_andW hc).1;rw[hn]at h4;exact h4
  have h5:=condW_of h4 (w_not (w_lt w_lit (w_len_list (w_arg rfl))));rw[bF]at h5;refine Nat.le_of_not_lt λq=>?_;have q':(n:Int)< ((ns.length:Nat):Int):=by lia
  first
   |(rw[gg q']at h5;exact absurd h5 (by decide))
   |(simp at h5;lia)
 cases hwl with
 |cons w1 w2=>
  cases w2;cases w1 with|list ho hall=>exact⟨_,_,ns,rfl,rfl,ho,T5 ns _ hall,hlen⟩
theorem T7(l:OpenLaw)(args:List WData):l.row.toRowW.claim.post args (.bool true) args=true:=
 postW_of (r:=l.row.toRowW) (X:=(true==true))
  (show WShape.has [] (.bool true) .bool=true by first|rfl|decide|simp[WShape.has,WShape.arms,WShape.armsAll])
  (show(WTm.eq .res (.lit (.bool true))).value [] {args:=args,res:=aB (.bool true),after:=args}=aB (.bool (true==true))from w_eq_bool (w_res rfl) w_lit) rfl
theorem jY{l:OpenLaw}{n:Nat}{q:ai}{loose:List Str}{XP:(Str->Option aa)->az->Prop}{YP:aj->az->Prop}{d:DefRec}
 (hn:l.most=aB n) (hdf:d.params.defaults=[])
 (call:∀(w:aj)(s₀ s₁:af)(mg mb:Str->Option aa)(fa:ah)(o:Obj)(pm cd doc:aa)(a:ah)(vs:List aa)(ns:List Int),
   Ground q loose [] XP w s₀ mg mb s₁.heap->YP w s₁.heap->
   s₁.heap.get? fa=aB o->o.data=.func (docDef d.name d.params d.body d.scope pm cd doc)->s₁.heap.CodeRec cd d.name->mg d.name=aB (.ref fa)->
   s₁.heap.get? a=aB {cls:=.type "list",data:=.seq vs.toArray}->IntsAre vs ns->ns.length<=n->s₁.gens = #[]->
   codeAny (model l.prog w) callerA (.call (.ref fa) ⟨[.ref a],[]⟩) (λr s'=>r=.ok (.ret (.bool true))/\OldK s₁.heap s'.heap/\s'.os=s₁.os/\AllBare s'.gens) s₁) :
 WalkO q loose XP YP l.row.toRowW d [] (λf vs=>PySem.call f vs):=by
 intro w s₀ s₁ mg mb G Y fa o pm cd doc dV kV ho hd hcd hD hmg hg args vals as hpre hlay hrd hwl hlo;obtain rfl:dV=.none:=Dflts.none hD hdf;obtain rfl:kV=.none:=Dflts.noKw hD;obtain⟨a,vs,ns,rfl,rfl,hobj,hints,hlen⟩:=T6 hn hpre hwl;refine enter_call (codeAny_mono (call w s₀ s₁ mg mb fa o pm cd doc a vs ns G Y ho (fd_plain hd) hcd hmg hobj hints hlen hg) λr s' hq=>?_);obtain⟨rfl,h2,h3,h4⟩:=hq;exact⟨.inl ⟨.bool true,.bool true,[],rfl,λ_=>rfl,.bool true,T7 l _,λ_=>⟨List.Pairwise.nil,λ_ hm=>(nomatch hm)⟩⟩,h2,h3,h4⟩
end My
namespace L2
open PySem PySem.Spec PyProof.Rows
theorem Mz:∀{vs:List aa} {ns:List Int},IntsAre vs ns->Vals (ns.map V.int) vs|_,_,.nil=>.nil|_,_,.cons n t h=>.cons ⟨t,rfl⟩ (Mz h)
noncomputable def vK(H:Hp):Prop:=∀b,H b=aC\/∃o xs,H b=aB (.bN o (.lst xs))
theorem T8{P:ai}{w:aj}{K:aO}{mg mb:Str->Option aa}{CX:pV}{k:Nat}{fa a:ah}{fd:au}{x:Str}{sp:Sp}{s₁:af}{vs:List aa}{ns:List Int}
 (KX:K.In s₁.heap) (hns:s₁.heap.Ns mainGlobals mg) (hb:s₁.heap.Ns builtinsNs mb) (Ht:∀x:Str,x≠"__name__"->mb x=bootBuiltins x) (hlim:s₁.heap.NoLimit) (hg:s₁.gens = #[])
 (ha:s₁.heap.get? a=aB {cls:=.type "list",data:=.seq vs.toArray}) (hi:IntsAre vs ns) (hl:ns.length<=sizeLine) (hr:dB k callerA)
 (F:∀base:az,K.In base->base.Ns mainGlobals mg->fU P w K mg base CX k fa fd [x] sp) (hbind:∀(s:af)(u:aa),BindsTo s fd ⟨[u],[]⟩ [(x,u)])
 (pX:∀H:Hp,vK H->cN K H a (ns.map V.int)->sp [.ref a] H (λv _=>v=.bl true) λ_ _ _=>False)
 (Hu:∀H e s',CX [] H s₁ (λ_ _ _=>False) e s'->False) :
 codeAny (model P w) callerA (.call (.ref fa) ⟨[.ref a],[]⟩) (λr s'=>r=.ok (.ret (.bool true))/\OldK s₁.heap s'.heap/\s'.os=s₁.os/\AllBare s'.gens) s₁:=by
 have rv:=Mz hi;have Hv:=hi.length;have core:∀H:Hp,vK H->cN K H a (ns.map V.int)->fN P w H s₁.heap->(∀b,H b≠aC->b=a)->(H a≠aC->K.lookup a=aC)->
  codeAny (model P w) callerA (.call (.ref fa) ⟨[.ref a],[]⟩) (λr s'=>r=.ok (.ret (.bool true))/\OldK s₁.heap s'.heap/\s'.os=s₁.os/\AllBare s'.gens) s₁:=by
  intro H hO hS hok hA hK;have base_of:∀{b:ah}{o:Obj},s₁.heap.get? b=aB o->H b=aC->(jA s₁.heap H).get? b=aB o:=λe n=>RG e n;have Ad:∀{b:ah}{o:Obj}{es:Array DictEntry}{ep:Nat},s₁.heap.get? b=aB o->o.data=.dict es ep->H b=aC:=λ{b o es ep} e d=>by
   cases q:H b with
   |none=>rfl
   |some u=>
    have e':b=a:=hA b (by rw[q];simp);subst e';rw[ha]at e;cases e;have d':Data.seq vs.toArray _=Data.dict es ep:=d;cases d'
  have EB:∀{b:ah}{m:Str->Option aa},s₁.heap.Ns b m->(jA s₁.heap H).Ns b m:=λ{b m}⟨o,es,ep,e,d,r⟩=>⟨o,es,ep,base_of e (Ad e d),d,r⟩
  have MA:K.In (jA s₁.heap H):=λb o e=>base_of (KX b o e) (by
   cases q:H b with
   |none=>rfl
   |some u=>
    have e':b=a:=hA b (by rw[q];simp);subst e';rw[hK (by rw[q];simp)]at e;cases e)
  have hM:Mod K mg (jA s₁.heap H):=⟨MA,EB hns,⟨mb,EB hb,Ht⟩,let⟨mc,h1,h2⟩:=hlim;⟨mc,EB h1,h2⟩⟩
  have e0:qV P w K mg (jA s₁.heap H) callerA [] s₁ H:=⟨rfl,hM,λb o e=>RH e,Nat.le_of_eq (RE _ _),trivial,λb hb=>absurd (show b∈([]:List ah)from hb) (by simp),hok,.of_eq hg⟩
  refine codeAny_mono ((F _ MA (EB hns)).run callerA [] s₁ H ⟨[.ref a],[]⟩ [.ref a] [.ref a] _ _ hr e0 (hbind s₁ (.ref a)) (.cons rfl .nil) (pX H hO hS)) λr s' h=>?_;cases r with
  |error e=>exact(Hu H e s' h).elim
  |ok fl=>
   cases fl with
   |next=>exact False.elim h
   |brk=>exact False.elim h
   |cont=>exact False.elim h
   |ret u=>
    obtain⟨v,H',os,bare,un,Hw,r',q⟩:=h;have q':v=.bl true:=q;subst q';obtain rfl:u=Value.bool true:=r';refine⟨rfl,OldK.of_keep λb o e=>?_,os,bare⟩;cases q:H b with
    |none=>exact un.keep b o e q (by intro z;exact absurd (show b∈([]:List ah)from z) (by simp)) (by simp)
    |some u=>
     rcases hO b with z|⟨ob,xs,z⟩;rw[q]at z;cases z;have z2:=un.i8 b ob _ z;obtain⟨e1,_⟩:=hok b _ z;obtain⟨e2,_⟩:=Hw b _ z2;rw[e]at e1;cases e1;exact e2
 cases hk:K.lookup a with
 |some o=>
  have e:=KX a o hk;rw[ha]at e;cases e;refine core (λ_=>aC) (λ_=>.inl rfl) (.inr ⟨_,vs.toArray,_,hk,rfl,rfl,rfl,by rw[eY,Hv];exact hl,by simpa using rv⟩) (λb u z=>by have z':(aC:Option HO)=aB u:=z;cases z') (λb z=>absurd rfl z) λz=>absurd rfl z
 |none=>
  refine core (λb=>if b=a then aB (.bN {cls:=.type "list",data:=.seq vs.toArray} (.lst (ns.map V.int)))else aC) (λb=>?_) (.inl (.inr ⟨{cls:=.type "list",data:=.seq vs.toArray},if_pos rfl⟩)) (λb u z=>?_) (λb z=>?_) λ_=>hk;by_cases hb:b=a;exact .inr ⟨_,_,if_pos hb⟩;exact .inl (if_neg hb);by_cases hb:b=a;have z':=(if_pos hb).symm.trans z;cases z';subst hb;exact⟨ha,by rw[bF];exact hl,vs,_,rv,ha⟩;have z':=(if_neg hb).symm.trans z;cases z';by_cases hb:b=a;exact hb;exact absurd (if_neg hb) z
theorem T9{l:PySem.W.OpenLaw}{n k:Nat}{q:ai}{loose:List Str}{XP:(Str->Option aa)->az->Prop}{YP:aj->az->Prop}{d:DefRec}{K:Params->aO}{CX:aj->pV}{sp:aj->Sp}{x:Str}
 (hn:l.most=aB n) (hn2:n<=sizeLine) (hdf:d.params.defaults=[]) (hr:dB k callerA)
 (hY:∀(w:aj)(h:az),YP w h->(K w.params).In h)
 (F:∀(w:aj)(mg:Str->Option aa)(fa:ah)(h:az),(K w.params).In h->h.Ns mainGlobals mg->mg d.name=aB (.ref fa)->
   ∃fd:au,(∀(s:af)(u:aa),BindsTo s fd ⟨[u],[]⟩ [(x,u)])/\
    ∀base:az,(K w.params).In base->base.Ns mainGlobals mg->fU l.prog w (K w.params) mg base (CX w) k fa fd [x] (sp w))
 (pX:∀(w:aj)(H:Hp)(a:ah)(ns:List Int),ns.length<=n->vK H->cN (K w.params) H a (ns.map V.int)->sp w [.ref a] H (λv _=>v=.bl true) λ_ _ _=>False)
 (Hu:∀(w:aj)(H:Hp)(s:af)(e:aa)(s':af),CX w [] H s (λ_ _ _=>False) e s'->False) :
 PySem.W.WalkO q loose XP YP l.row.toRowW d [] (λf vs=>PySem.call f vs):=by
 refine My.jY hn hdf λw s₀ s₁ mg mb fa o pm cd doc a vs ns G Y ho hd hcd hmg hobj hints hlen hg=>?_;have KX:=hY w _ Y;obtain⟨fd,hb,hF⟩:=F w mg fa _ KX G.T.g hmg;exact T8 KX G.T.g G.T.b G.T.builtins G.T.nolimit hg hobj hints (iY hlen hn2) hr hF hb (λH hO hS=>pX w H a ns hlen hO hS) λH e s'=>Hu w H s₁ e s'
noncomputable def Ua(s:aq):Arguments:=match s with|.FunctionDef _ a _ _ _ _ _ _ _ _=>a|_=>{posonlyargs:=[],args:=[],vararg:=aC,kwonlyargs:=[],kw_defaults:=[],kwarg:=aC,defaults:=[]}
noncomputable def zev(s:aq):List aq:=match s with|.FunctionDef _ _ b _ _ _ _ _ _ _=>b|_=>[]
noncomputable def jC(s:aq):ay:=match s with|.FunctionDef _ _ _ _ _ _ sc _ _ _=>sc|_=>{kind:=.function,names:=[],isGenerator:=false,isCoroutine:=false}
noncomputable abbrev lD:pV:=λ_ _ _ _ _ _=>False
noncomputable abbrev E0:XK:=λ_ _ _=>False
theorem nR{X:Cx}:EA lD X E0:=λ_ _ _ _ _ _ _ h=>h.elim
theorem MB{n:Nat}(h:n<=1000):n<sizeLine:=pU h (by decide)
noncomputable def nS(cells:List (Str×ah)):List (Str×NameKind)->List (Str×ah)->List (Str×ah)|[],cs=>cs|(n,k)::r,cs=>nS cells r (if k == .free then(match cells.lookup n with|some c=>(n,c)::cs|none=>cs)else cs)
theorem MC{scope:ay}{env:Env}(hf:∀y∈scope.names,y.2=.free->∃c,env.cells.lookup y.1=aB c):closureFor scope env=pure (nS env.cells scope.names []):=by
 have go:∀(l:List (Str×NameKind))(cs:List (Str×ah)),(∀y∈l,y.2=.free->∃c,env.cells.lookup y.1=aB c)->
  (forIn l cs λ(x:Str×NameKind)(r:List (Str×ah))=>(match x with
    |(name,kind)=>if(kind==NameKind.free)=true then(do let a <-cellOf env name;pure (ForInStep.yield ((name,a)::r)))else pure (ForInStep.yield r):Sem (ForInStep (List (Str×ah)))))=(pure (nS env.cells l cs):Sem (List (Str×ah))):=by
  intro l;induction l with
  |nil=>intro cs _;rfl
  |cons x r ih=>
   intro cs h;obtain⟨n,k⟩:=x;rw[xP];by_cases hk:(k==NameKind.free)=true;have hk':k=.free:=by simpa using hk
   obtain⟨c,hc⟩:=h (n,k) eX hk';have hc':env.cells.lookup n=aB c:=hc;simp only[hk,b9,cellOf,hc',nS];exact ih _ λy hy=>h y (eU _ hy);have hk':(k==NameKind.free)=false:=by simpa using hk
   simp only[hk',eW,dF,nS];exact ih _ λy hy=>h y (eU _ hy)
 have e:=go scope.names [] hf;unfold closureFor;refine Eq.trans (ku (λt=>t >>= λcs=>pure cs) e) ?_;rfl
theorem MD{cells:List (Str×ah)}:∀(l:List (Str×NameKind)) (cs:List (Str×ah)),(∀x c,cs.lookup x=aB c->cells.lookup x=aB c)->∀x c,(nS cells l cs).lookup x=aB c->cells.lookup x=aB c
 |[],cs,h=>h
 |(n,k)::r,cs,h=>MD r _ λx c e=>by
  by_cases hk:(k==NameKind.free)=true;simp only[hk,b9]at e;cases hc:cells.lookup n with
  |none=>rw[hc]at e;exact h x c e
  |some d=>
   rw[hc]at e;simp only[jx]at e;by_cases hx:(x==n)=true;simp only[hx]at e;cases e;rw[show x=n by simpa using hx];exact hc;have hx':(x==n)=false:=by simpa using hx
   simp only[hx']at e;exact h x c e
  have hk':(k==NameKind.free)=false:=by simpa using hk
  simp only[hk',eW,dF]at e;exact h x c e
theorem ME{cells:List (Str×ah)}{x:Str}{c:ah}(hc:cells.lookup x=aB c):∀(l:List (Str×NameKind)) (cs:List (Str×ah)),cs.lookup x=aB c->(nS cells l cs).lookup x=aB c
 |[],cs,h=>h
 |(n,k)::r,cs,h=>ME hc r _ (by
  by_cases hk:(k==NameKind.free)=true;simp only[hk,b9];cases hn:cells.lookup n with
  |none=>exact h
  |some d=>
   simp only[jx];by_cases hx:(x==n)=true;have:x=n:=by simpa using hx
   subst this;rw[hc]at hn;cases hn;simp;have hx':(x==n)=false:=by simpa using hx
   simp only[hx'];exact h
  have hk':(k==NameKind.free)=false:=by simpa using hk
  simp only[hk',eW,dF];exact h)
theorem Hx{cells:List (Str×ah)}{x:Str}{c:ah}(hc:cells.lookup x=aB c):∀(l:List (Str×NameKind)) (cs:List (Str×ah)),(x,NameKind.free)∈l->(nS cells l cs).lookup x=aB c
 |[],cs,h=>by cases h
 |(n,k)::r,cs,h=>by
  rcases eV.mp h with e|e;cases e;refine ME hc r _ ?_;rw[hc];simp[jx];exact Hx hc r _ e
noncomputable abbrev Cx.comp(X:Cx)(N:List Str)(scope:ay)(C:ah)(s₀:af)(H₀:Hp)(ex:List ah):Cx:=
 {X with N:=N,s₀:=s₀,H₀:=H₀,env:=compEnvC scope (nS X.env.cells scope.names []) C X.env,outer:=X.stack,stack:=X.stack,ex:=ex,fn:=λ_=>false,pn:=[],xe:=λ_ _=>False}
structure bW(X:Cx)(ow fr:List Str)(ix:List Nat)(scope:ay):Prop where
 kind:scope.kind=.function
 kM:∀y∈scope.names,y.2≠.cell
 names:∀y∈scope.names,y.2=.local->scope.names.lookup y.1=aB .local
 own:∀x∈ow,scope.names.lookup x=aB .local
 free:∀y∈scope.names,y.2=.free->X.env.kindOf y.1=aB .cell\/X.env.kindOf y.1=aB .free
 at_:∀(k:Nat)(x:Str),fr[k]?=aB x->∃j,ix[k]?=aB j/\X.N[j]?=aB x/\scope.names.lookup x=aB .free
 len:ix.length=fr.length
noncomputable def mD(ow fr:List Str)(ix:List Nat)(σ:St):St:=ow.map (λ_=>aC)++ix.map λj=>(σ[j]?).join
theorem MF{x:Str}{k:NameKind}:∀{l:List (Str×NameKind)},l.lookup x=aB k->(x,k)∈l
 |[],h=>by cases h
 |(n,j)::r,h=>by
  simp only[jx]at h;by_cases hx:(x==n)=true;simp only[hx]at h;cases h;rw[show x=n by simpa using hx];exact eX;have hx':(x==n)=false:=by simpa using hx
  simp only[hx']at h;exact eU _ (MF h)
theorem Hy{env:Env}:∀{l:List (Str×NameKind)} {x:Str} {k:NameKind},
 (l.map λ(n,k)=>if(k==NameKind.free&&env.scope.kind == .function&&env.kindOf n==aB .cell)then(n,NameKind.cell)else(n,k)).lookup x=aB k->k≠.local->(∀y∈l,y.2≠.cell)->k=.cell\/k=.free->(x,NameKind.free)∈l
 |[],x,k,h,_,_,_=>by cases h
 |(n,j)::r,x,k,h,hk,hc,hh=>by
  have ih:=@Hy env r x k;rw[dz]at h;by_cases hc':(j==NameKind.free&&env.scope.kind == .function&&env.kindOf n==aB .cell)=true;simp only[hc',b9,jx]at h;have hj:j=.free:=by simp only[bM,beq_iff_eq]at hc';exact hc'.1.1
  by_cases hx:(x==n)=true;rw[show x=n by simpa using hx,hj];exact eX;have hx':(x==n)=false:=by simpa using hx
  simp only[hx']at h;exact eU _ (ih h hk (λy hy=>hc y (eU _ hy)) hh);have hcf:(j==NameKind.free&&env.scope.kind == .function&&env.kindOf n==aB .cell)=false:=by simpa using hc'
  simp only[hcf,eW,dF,jx]at h;by_cases hx:(x==n)=true;simp only[hx]at h;cases h;rcases hh with z|z
  exact absurd z (hc _ eX);rw[show x=n by simpa using hx,z];exact eX;have hx':(x==n)=false:=by simpa using hx
  simp only[hx']at h;exact eU _ (ih h hk (λy hy=>hc y (eU _ hy)) hh)
theorem EC{env:Env}(hkf:env.scope.kind=.function):∀{l:List (Str×NameKind)} {x:Str},l.lookup x=aB .free->
 (l.map λ(n,k)=>if(k==NameKind.free&&env.scope.kind == .function&&env.kindOf n==aB .cell)then(n,NameKind.cell)else(n,k)).lookup x=aB (if env.kindOf x=aB .cell then .cell else .free)
 |[],x,h=>by cases h
 |(n,j)::r,x,h=>by
  have ih:=@EC env hkf r x;rw[dz];simp only[jx]at h;by_cases hx:(x==n)=true;simp only[hx]at h;cases h;have e:x=n:=by simpa using hx
  subst e;by_cases hq:env.kindOf x=aB .cell;simp[hkf,hq,jx];simp[hq,jx];have hx':(x==n)=false:=by simpa using hx
  simp only[hx']at h;by_cases hc':(j==NameKind.free&&env.scope.kind == .function&&env.kindOf n==aB .cell)=true;simp only[hc',b9,jx,hx'];exact ih h;have hcf:(j==NameKind.free&&env.scope.kind == .function&&env.kindOf n==aB .cell)=false:=by simpa using hc'
  simp only[hcf,eW,dF,jx,hx'];exact ih h
section
variable{X:Cx}{pins:List (ah×Obj)}{σ:St}{H:Hp}{s:af}{ow fr:List Str}{ix:List Nat}{scope:ay}{fp:List ah}
theorem Ub(S:bW X ow fr ix scope)(I:Inv X pins σ H s)(hfp:∀b∈fp,fT X pins H b)(hlt:∀b∈fp,b<s.heap.objs.size){h':az}{tk:Nat}{m:Str->Option aa}(hn:h'.Ns s.heap.objs.size m)(hk:∀b o,s.heap.get? b=aB o->h'.get? b=aB o) :
 Inv (X.comp (ow++fr) scope s.heap.objs.size s H fp) [] (mD ow fr ix σ) H {s with heap:=h',toks:=tk}:=by
 have sub:=MD (cells:=X.env.cells) scope.names [] (λx c e=>by cases e);have kf:=I.ok.kind;have MG:∀x c,X.env.cells.lookup x=aB c->c≠s.heap.objs.size:=λx c e z=>by
  obtain⟨v,q⟩:=I.cell x c e;exact absurd q.lt (by rw[z];exact nj _)
 have Hz:∀x,(x,NameKind.free)∈scope.names->∃c,(nS X.env.cells scope.names []).lookup x=aB c/\X.env.cells.lookup x=aB c:=λx hx=>by
  obtain⟨c,hc⟩:=I.ok.has x (S.free _ hx rfl);exact⟨c,Hx hc _ _ hx,hc⟩
 refine⟨⟨I.ok.mod,?_,I.ok.glob,I.ok.blt,bq _,λx y c a b=>I.ok.inj x y c (sub x c a) (sub y c b),λx hx=>?_,λx c e=>?_,I.ok.hd,I.ok.frames,.inl rfl,λb hb=>?_,λb o e=>?_,?_,λb o e hb=>?_,λb hb hz=>?_,I.stack,λb hb=>I.lA b hb⟩,
  rfl,I.bare,Un.kept hk,⟨m,hn,λi x v e1 e2 e3=>?_⟩,λx c e=>?_,I.hok.fresh (bq _),λx c e=>I.fO x c (sub x c e),λp hp=>?_,I.hok.kept hk,?_⟩
 exact S.kind;have hx':(relabel scope X.env).names.lookup x=aB .cell\/(relabel scope X.env).names.lookup x=aB .free:=hx;have hm:(x,NameKind.free)∈scope.names:=by rcases hx' with z|z;exact Hy (env:=X.env) z (by decide) S.kM (.inl rfl);exact Hy (env:=X.env) z (by decide) S.kM (.inr rfl)
 obtain⟨c,hc,_⟩:=Hz x hm;exact⟨c,hc⟩;cases e;obtain⟨f0,f1,f2,f3,f4,f5⟩:=hfp b hb;refine⟨λz=>?_,λx c e=>f4 x c (sub x c e)⟩;have q:=hlt b hb;rw[z]at q;exact absurd q (nj _);exact⟨(I.bs b o e).1,(I.bs b o e).2⟩;exact iY I.ok.vt I.sz;obtain⟨f0,f1,f2,f3,f4,f5⟩:=hfp b hb;rcases f3 with z|z;exact I.ok.nL b o e z;exact absurd (dS (cP (I.ok.bs b o e).1) z) (nj _);obtain⟨f0,f1,f2,f3,f4,f5⟩:=hfp b hb;rcases eV.mp (I.kK b hz)with z|z;exact f1 z;exact f2 z;have hlen:ow.length<=i:=by
  by_cases hi:i<ow.length;unfold mD at e2;rw[nC (by simpa using hi),iC]at e2;cases q:ow[i]? with|none=>rw[q]at e2;cases e2|some y=>rw[q]at e2;cases e2
  lia
 have Uc:fr[i-ow.length]?=aB x:=by have e1:(ow++fr)[i]?=aB x:=e1;rw[kI hlen]at e1;exact e1
 have ED:(ix.map λj=>(σ[j]?).join)[i-ow.length]?=aB (aB v):=by unfold mD at e2;rw[kI (by simpa using hlen)]at e2;simpa using e2
 obtain⟨j,hj,hN,hl⟩:=S.at_ _ _ Uc;rw[iC,hj]at ED;have nT:(σ[j]?).join=aB v:=jN ED;have hσ:σ[j]?=aB (aB v):=by
  cases q:σ[j]? with
  |none=>rw[q]at nT;cases nT
  |some o=>rw[q]at nT;cases o with
   |none=>cases nT
   |some w=>cases nT;rfl
 obtain⟨m0,hm0,Ud⟩:=I.loc;have hmem:=MF hl;have hkf:=S.free _ hmem rfl;have HA:yh X.env.scope x:=hkf.elim (λz=>.inr (.inl z)) λz=>.inr (.inr z);obtain⟨u,ru,lk⟩:=Ud j x v hN hσ HA;refine⟨u,ru,.inr ?_⟩;have hcell:∃c,X.env.cells.lookup x=aB c/\s.heap.IsCell c (aB u):=by rcases lk with⟨z,_⟩|⟨_,c,e,z⟩;rcases hkf with q|q;rw[show X.env.kindOf x=aB .local from z]at q;cases q;rw[show X.env.kindOf x=aB .local from z]at q;cases q;exact⟨c,e,z⟩
 obtain⟨c,hc,o,ho,hd⟩:=hcell;refine⟨?_,c,Hx hc _ _ hmem,o,hk _ _ ho,hd⟩;show(relabel scope X.env).names.lookup x=aB .cell\/(relabel scope X.env).names.lookup x=aB .free;have q:=EC (env:=X.env) kf hl;by_cases z:X.env.kindOf x=aB .cell;rw[if_pos z]at q;exact .inl q;rw[if_neg z]at q;exact .inr q;obtain⟨v,q⟩:=I.cell x c (sub x c e);obtain⟨o,ho,hd⟩:=q;exact⟨v,o,hk _ _ ho,hd⟩;cases(show p∈([]:List (ah×Obj))from hp);show(mD ow fr ix σ).length=(ow++fr).length;unfold mD;rw[fS,bF,bF,fS,S.len]
end
theorem Ue{α:Type}{M:Model}{A:ak}{t:Sem α}{Q:α->af->Prop}{E:aa->af->Prop}{s:af}(h:wpAny M A t Q (λ_ _=>False) s):wpAny M A t Q E s:=nB h (λ_ _ q=>q) λ_ _ z=>z.elim
noncomputable abbrev tQ:aa->af->Prop:=λ_ _=>False
noncomputable abbrev MH(ifs:List ao)(env:Env):Sem Bool:=forIn ifs true λc r=>if r=true then do let ok <-isTrue c env (eval c env);pure (ForInStep.yield ok)else pure (ForInStep.yield r)
theorem Ug{prog:ai}{w:aj}{A:ak}{R:Result->af->Prop}{s:af}{elt target iter:ao}{ifs:List ao}{scope:ay}{pos:Pos}{it acc:aa}{env:Env}(I:Nat->af->Prop)
 (turn:∀n s,I n s->wpAny (model prog w) A (pyNext it) (λr s₁=>match r with
   |none=>R (.ok .next) s₁
   |some v=>wpAny (model prog w) A (letOwnedTupleGo target it v) (λ_ s₀=>wpAny (model prog w) A (assign target env v) (λ_ s₂=>
    wpAny (model prog w) A (MH ifs env) (λok s₃=>
     if ok=true then wpAny (model prog w) A (eval elt env) (λx s₄=>
      wpAny (model prog w) A (call (.builtin "list.append") [acc,x]) (λ_ s₅=>∃m,m<n/\I m s₅) tQ s₄) tQ s₃
     else ∃m,m<n/\I m s₃) tQ s₂) tQ s₀) tQ s₁) tQ s)
 (n:Nat) (h:I n s) :
 codeAny (model prog w) A (.compLoop (.ListComp elt [⟨target,iter,ifs,0⟩] scope pos) 0 it acc env) R s:=by
 refine codeAny_loop rfl I (λn s hI=>?_) n h;show wpAny _ A ((compTurn (.ListComp elt [⟨target,iter,ifs,0⟩] scope pos) 0 it acc env).onRaise (λx=>do noteFrame x env;theTreesLotGoes x)) _ _ s;refine wpAny_noted (Ue ?_);rw[compTurn_list];refine aJ (Dt (aJ (nB (turn n s hI) (λr s₁ h₁=>?_) λ_ _ h'=>h')));cases r with
 |none=>exact bg h₁
 |some v=>
  refine aJ (nB h₁ (λ_ s₀ h₀=>?_) λ_ _ h'=>h');refine aJ (nB h₀ (λ_ s₂ h₂=>aJ (nB h₂ (λok s₃ h₃=>?_) λ_ _ h'=>h')) λ_ _ h'=>h');cases ok with
  |true=>
   simp only[b9]at h₃ ⊢;exact aJ (aJ (nB h₃ (λx s₄ h₄=>aJ (nB h₄ (λ_ s₅ h₅=>bg (bg ⟨rfl,h₅⟩)) λ_ _ h'=>h')) λ_ _ h'=>h'))
  |false=>
   simp only[eW,dF]at h₃ ⊢;exact bg ⟨rfl,h₃⟩
noncomputable def qX(X:Cx)(ifs:List ao)(t:TT):Prop:=
 ∀(pins:List (ah×Obj))(s:af)(σ:St)(H:Hp)(Q:Bool->Hp->Prop),Inv X pins σ H s->t σ H Q->wpAny (model X.prog X.w) X.A (MH ifs X.env) (TP X pins σ Q) X.xe s
noncomputable def HB:TT:=λ_ H Q=>Q true H
theorem Uh{X:Cx}:qX X [] HB:=λpins s σ H Q I h=>wpAny_tests_nil ⟨H,I,h⟩
theorem Ui{X:Cx}{c:ao}{t:TT}(h:PT X c t):qX X [c] t:=λpins s σ H Q I q=>wpAny_tests_one (h pins s σ H Q I q)
noncomputable def HC(K:aO)(f:St->St)(wi:TI)(g:TG)(tc:TT)(te:TE):TE:=λσ H Q=>wi σ H λJ H1=>∀D,H1 D=aC->K.lookup D=aC->
 ∃W:Nat->Nat->St->Hp->List V->Prop,(∃m,W 0 m (f σ) (upd H1 D (.lst [])) [])/\∀i m σ' H' ys,W i m σ' H' ys->H' D=aB (.lst ys)/\
  ((J.stop i H'/\Q (.ref D) H')\/(J.go i H'/\∀x H2,J.ym i H' x H2->g x σ' H2 λσ2 H3=>tc σ2 H3 λb H4=>
    if b=true then te σ2 H4 λy H5=>H5 D=aB (.lst ys)/\ys.length<sizeLine/\∃m',m'<m/\W (i+1) m' σ2 (upd H5 D (.lst (ys++[y]))) (ys++[y])
    else ∃m',m'<m/\W (i+1) m' σ2 H4 ys))
section
variable{X:Cx}{ow fr:List Str}{ix:List Nat}{scope:ay}{tg iter elt:ao}{ifs:List ao}{pos:Pos}{wi:TI}{g:TG}{tc:TT}{te:TE}
theorem MI{pins:List (ah×Obj)}{s:af}{σ:St}{Q:VK}{RR:aa->ah->Result->af->Prop}(S:bW X ow fr ix scope)(hc:X.calm=true)
 (hg:∀C s₀ H₀ ex,PG (X.comp (ow++fr) scope C s₀ H₀ ex) tg g) (ht:∀C s₀ H₀ ex,qX (X.comp (ow++fr) scope C s₀ H₀ ex) ifs tc) (he:∀C s₀ H₀ ex,PE (X.comp (ow++fr) scope C s₀ H₀ ex) elt te)
 {itv:aa} {E:aa->af->Prop}
 (h:Er X pins σ tg (λJ H1=>∀D,H1 D=aC->X.K.lookup D=aC->
   ∃W:Nat->Nat->St->Hp->List V->Prop,(∃m,W 0 m (mD ow fr ix σ) (upd H1 D (.lst [])) [])/\∀i m σ' H' ys,W i m σ' H' ys->H' D=aB (.lst ys)/\
    ((J.stop i H'/\Q (.ref D) H')\/(J.go i H'/\∀x H2,J.ym i H' x H2->g x σ' H2 λσ2 H3=>tc σ2 H3 λb H4=>
      if b=true then te σ2 H4 λy H5=>H5 D=aB (.lst ys)/\ys.length<sizeLine/\∃m',m'<m/\W (i+1) m' σ2 (upd H5 D (.lst (ys++[y]))) (ys++[y])
      else ∃m',m'<m/\W (i+1) m' σ2 H4 ys))) itv s)
 (fin:∀D C H' s' m,fT X pins H' C->s'.heap.Ns C m->(∀h'',Heap.SameBut C s'.heap h''->Inv X pins σ H' {s' with heap:=h''})->Q (.ref D) H'->RR (.ref D) C (.ok .next) s') :
 wpAny (model X.prog X.w) X.A (newList []) (λacc s₃=>wpAny (model X.prog X.w) X.A (newFunctionEnv scope X.env.globals (nS X.env.cells scope.names []) [] X.env.qual aC .none (aB X.env)) (λcenv s₄=>
  codeAny (model X.prog X.w) X.A (.compStart (.ListComp elt [⟨tg,iter,ifs,0⟩] scope pos) 0 itv acc {cenv with scope:=relabel scope X.env}) (RR acc cenv.locals) s₄) E s₃) E s:=by
 obtain⟨it,fp,tn,J,H1,e,I1,T,st1,f1,hq⟩:=h;subst e;have hD:H1 s.heap.objs.size=aC:=I1.hok.fresh (bq _);have Uj:X.K.lookup s.heap.objs.size=aC:=by
  cases e:X.K.lookup s.heap.objs.size with|none=>rfl|some o=>exact absurd (cP (I1.jB _ _ e)) (nj _)
 obtain⟨W,⟨m0,w0⟩,turn⟩:=hq _ hD Uj;have I3:Inv X pins σ (upd H1 s.heap.objs.size (.lst [])) {s with heap:=s.heap.push {cls:=.type "list",dict:=aC,data:=.seq ([]:List aa).toArray}}:=
  I1.laid (t':=s.toks) (o:=.lst []) (λb u q=>dH _ q) (bq _) ⟨gX _,[],0,.nil,gh _ rfl⟩
 have Au:∀b∈fp,b<s.heap.objs.size:=λb hb=>by
  obtain⟨o,ho,_⟩:=T.obj _ _ st1 b hb;exact cP ho
 have f3:∀b∈fp,fT X pins (upd H1 s.heap.objs.size (.lst [])) b:=λb hb=>⟨by rw[bQ (fB (Au b hb))];exact(f1 b hb).1,(f1 b hb).2⟩
 refine k9 (wpAny_newFunctionEnv S.kM (by intro y hy;simp at hy) (λh₁ hns Av=>?_) S.kind);dsimp only at hns Av ⊢;generalize MJ:({s with heap:=s.heap.push {cls:=.type "list",dict:=aC,data:=.seq ([]:List aa).toArray}}:af)=s3 at I3;have HE:s3.heap=s.heap.push {cls:=.type "list",dict:=aC,data:=.seq ([]:List aa).toArray}:=by rw[<-MJ]
 rw[<-HE]at hns Av ⊢;have hk:∀b o,s3.heap.get? b=aB o->h₁.get? b=aB o:=λb o e=>Av.extBut b o (fB (cP e)) (dH _ e);have HF:∀b∈fp,b<s3.heap.objs.size:=λb hb=>by rw[HE,qH];exact tD (Au b hb)
 have J3:=Ub S I3 f3 HF (tk:=s.toks) hns hk;have st3:tn 0 h₁:=T.keep _ _ _ st1 λb hb o e=>hk b o (by rw[HE];exact dH _ e);have HG:∀b∈fp,(X.comp (ow++fr) scope s3.heap.objs.size s3 (upd H1 s.heap.objs.size (.lst [])) fp).Ok->∀{H':Hp},H' b=aC->fT (X.comp (ow++fr) scope s3.heap.objs.size s3 (upd H1 s.heap.objs.size (.lst [])) fp) [] H' b:=λb hb ok H' hn=>
  ⟨hn,(ok.Em b hb).1,ok.nM b hb,.inl hb,(ok.Em b hb).2,λp hp=>by cases(show p∈([]:List (ah×Obj))from hp)⟩
 have back:∀{σ':St}{H':Hp}{s':af},Inv (X.comp (ow++fr) scope s3.heap.objs.size s3 (upd H1 s.heap.objs.size (.lst [])) fp) [] σ' H' s'->∀h'',Heap.SameBut s3.heap.objs.size s'.heap h''->Inv X pins σ H' {s' with heap:=h''}:=λ{σ' H' s'} I' h'' hs=>by
  have tL:∀b o,s3.heap.get? b=aB o->b≠s3.heap.objs.size:=λb o e=>fB (cP e);have un:Un (frs X.stack) fp (upd H1 s.heap.objs.size (.lst [])) H' s3.heap h'':=
   ⟨λb o e n hb hx=>(hs.2 b (tL b o e)).trans (I'.base.keep b o e n hb hx),λb o e n hb hx=>by
    obtain⟨sl,q⟩:=I'.base.slot b o e n hb hx;exact⟨sl,(hs.2 b (tL b o e)).trans q⟩,I'.base.free,λb o e hx=>by
    obtain⟨o',q⟩:=I'.base.there b o e hx;exact⟨o',(hs.2 b (tL b o e)).trans q⟩,I'.base.tups,I'.base.i8,I'.base.jz⟩
  have hok:fN X.prog X.w H' h'':=λb ob e=>by
   refine(I'.hok b ob e).stay (λc w' hcc q=>(hs.2 c ?_).trans q) (λ_ q=>q) λ_ _ q=>q;rintro rfl;have hfree:=I'.free;rcases hcc with rfl|hcc
   rw[show H' s3.heap.objs.size=aC from hfree]at e;cases e;rw[show H' s3.heap.objs.size=aC from hfree]at hcc;cases hcc
  have hos:s'.os=s3.os:=I'.os;exact I3.zF (s':={s' with heap:=h''}) (ch:=fp) hos un hok I'.bare λb hb=>by
   obtain⟨_,a1,a2,a3,a4,a5⟩:=f1 b hb;exact⟨a3,a1,a4,a5⟩
 have loop:∀s4:af,Inv (X.comp (ow++fr) scope s3.heap.objs.size s3 (upd H1 s.heap.objs.size (.lst [])) fp) [] (mD ow fr ix σ) (upd H1 s.heap.objs.size (.lst [])) s4->tn 0 s4.heap->
  codeAny (model X.prog X.w) X.A (.compLoop (.ListComp elt [⟨tg,iter,ifs,0⟩] scope pos) 0 (.ref it) (.ref s.heap.objs.size) (X.comp (ow++fr) scope s3.heap.objs.size s3 (upd H1 s.heap.objs.size (.lst [])) fp).env)
   (RR (.ref s.heap.objs.size) s3.heap.objs.size) s4:=by
  intro s4 I4 Uk;refine Ug (λn s'=>∃i σ' H' ys,Inv (X.comp (ow++fr) scope s3.heap.objs.size s3 (upd H1 s.heap.objs.size (.lst [])) fp) [] σ' H' s'/\tn i s'.heap/\(∀b∈fp,H' b=aC)/\W i n σ' H' ys) ?_ m0 ⟨0,_,_,[],I4,Uk,λb hb=>(f3 b hb).1,w0⟩;rintro n s5 ⟨i,yp,H5,ys,I5,yo,Ew,w5⟩;obtain⟨hDl,alt⟩:=turn i n yp H5 ys w5;rcases alt with⟨stop,q⟩|⟨go,step⟩
  .refine bG (T.done (X.comp (ow++fr) scope s3.heap.objs.size s3 (upd H1 s.heap.objs.size (.lst [])) fp) rfl rfl rfl hc i [] s5 yp H5 tQ I5 (λb hb=>HG b hb I5.ok (Ew b hb)) yo stop) λr s6 dU=>?_
   obtain⟨hr,I6⟩:=dU;subst hr;obtain⟨m6,Ul,_⟩:=I6.loc;exact fin _ _ H5 s6 m6 (I3.jT (bq _) I6.free) Ul (back I6) q
  refine bG (T.item (X.comp (ow++fr) scope s3.heap.objs.size s3 (upd H1 s.heap.objs.size (.lst [])) fp) rfl rfl rfl hc i [] s5 yp H5 tQ I5 (λb hb=>HG b hb I5.ok (Ew b hb)) yo go) λr s6 dU=>?_;obtain⟨u,hr,h6⟩:=dU;subst hr;refine bG h6 λ_ s7 dU=>?_;obtain⟨x,H7,I7,r7,y7,HH,Um⟩:=dU;have Uo:=I7.pinned (λb hb=>HG b hb I7.ok (Um b hb)) (T.obj _ _ HH);have again:∀{tR:St}{H8:Hp}{s8:af}{zs:List V}{m':Nat},Inv (X.comp (ow++fr) scope s3.heap.objs.size s3 (upd H1 s.heap.objs.size (.lst [])) fp) ([]++zS fp s7.heap) tR H8 s8->m'<n->W (i+1) m' tR H8 zs->
   ∃m,m<n/\∃i σ' H' ys,Inv (X.comp (ow++fr) scope s3.heap.objs.size s3 (upd H1 s.heap.objs.size (.lst [])) fp) [] σ' H' s8/\tn i s8.heap/\(∀b∈fp,H' b=aC)/\W i m σ' H' ys:=λ{tR H8 s8 zs m'} I8 hm w8=>by
   refine⟨m',hm,i+1,tR,H8,zs,I8.gk,T.keep _ _ _ HH λb hb o e=>(I8.pin (b,o) (l8 _ (l8 _ (Eu hb e)))).1,λb hb=>?_,w8⟩;obtain⟨o,e,d⟩:=T.obj _ _ HH b hb;exact(I8.pin (b,o) (l8 _ (l8 _ (Eu hb e)))).2.1
  refine bG (hg _ _ _ _ _ s7 yp H7 x u _ Uo r7 (step x H7 y7)) λ_ s8 dU=>?_;obtain⟨tR,H8,I8,q8⟩:=dU;refine bG (ht _ _ _ _ _ s8 tR H8 _ I8 q8) λok s9 z9=>z9.el λH9 I9 q9=>?_;cases ok with
  |false=>
   simp only[eW,dF]at q9 ⊢;obtain⟨m',hm,w9⟩:=q9;exact again I9 hm w9
  |true=>
   simp only[b9]at q9 ⊢;refine bG (he _ _ _ _ _ s9 tR H9 _ I9 q9) λy MK dU=>?_;obtain⟨vy,ML,Uq,ry,HJ,hz,m',hm,Ur⟩:=dU;refine bG (Mx _ MK tR ML (.ref s.heap.objs.size) [vy] (.ref s.heap.objs.size) [y] (λv H'=>H'=upd ML s.heap.objs.size (.lst (ys++[vy]))) Uq rfl (.cons ry .nil) ⟨_,ys,vy,rfl,rfl,HJ,hz,rfl⟩) λ_ s11 dU=>?_;obtain⟨v11,H11,Us,_,Ut⟩:=dU;subst Ut;exact again Us hm Ur
 have MM:Inv (X.comp (ow++fr) scope s3.heap.objs.size s3 (upd H1 s.heap.objs.size (.lst [])) fp) [] (mD ow fr ix σ) (upd H1 s.heap.objs.size (.lst [])) {s with heap:=h₁,toks:=s.toks}:=by rw[<-MJ]at J3 ⊢;exact J3
 exact codeAny_compStart_list (loop _ MM st3) (T.self _ 0 _ _ _ st3 (loop _ MM st3))
theorem Aw(S:bW X ow fr ix scope)(hc:X.calm)(hi:PI X tg iter wi)
 (hg:∀C s₀ H₀ ex,PG (X.comp (ow++fr) scope C s₀ H₀ ex) tg g) (ht:∀C s₀ H₀ ex,qX (X.comp (ow++fr) scope C s₀ H₀ ex) ifs tc) (he:∀C s₀ H₀ ex,PE (X.comp (ow++fr) scope C s₀ H₀ ex) elt te)
 (hs:∀x,foldedSetIterable iter X.env x=pure x:=by intro _;rfl):PE X (.ListComp elt [⟨tg,iter,ifs,0⟩] scope pos) (HC X.K (mD ow fr ix) wi g tc te):=by
 intro pins s σ H Q I h;rw[eval_ListComp];refine wpAny_comprehension_free (use:=aC) rfl hs (MC λy hy e=>I.ok.has _ (S.free y hy e)) S.kind S.names (bG (hi pins s σ H _ I h) λv s1 h1=>bG h1 λitv s2 h2=>?_);exact MI (RR:=λacc C=>compPost (model X.prog X.w) X.A X.xe aC (EP X pins σ Q) acc C) S hc hg ht he h2 λD C H' s' m _ hn hI q=>⟨m,hn,λh'' vL=>⟨.ref D,H',hI h'' vL,rfl,q⟩⟩
theorem Uu{i:Nat}{y:Str}{py spos:Pos}(hN:X.N.Nodup)(Uv:X.N[i]?=aB y)(hy:Loc X.env.scope y)(S:bW X ow fr ix scope)(hc:X.calm)(hi:PI X tg iter wi)
 (hg:∀C s₀ H₀ ex,PG (X.comp (ow++fr) scope C s₀ H₀ ex) tg g) (ht:∀C s₀ H₀ ex,qX (X.comp (ow++fr) scope C s₀ H₀ ex) ifs tc) (he:∀C s₀ H₀ ex,PE (X.comp (ow++fr) scope C s₀ H₀ ex) elt te)
 (hsw:autoParam (swapsWith (.ListComp elt [⟨tg,iter,ifs,0⟩] scope pos) (aB (.Name y py)) spos.line X.env=pure true) L2.aR._auto_1)
 (hf:autoParam (X.fn y=true\/X.env.scope.names.lookup y=aB .local) L2.aF._auto_1)
 (hs:∀x,foldedSetIterable iter X.env x=pure x:=by intro _;rfl):PS X (.Assign [.Name y py] (.ListComp elt [⟨tg,iter,ifs,0⟩] scope pos) spos) (vC (HC X.K (mD ow fr ix) wi g tc te) (jS i)):=by
 intro pins s σ H D I h;rw[exec_Assign_Name_used _ _ _ _ hsw];refine aJ (Dt (aJ ?_));show wpAny _ X.A (do let _ <-comprehension (.ListComp elt [⟨tg,iter,ifs,0⟩] scope pos) scope X.env _ (newList []) false (eval iter X.env) (aB (assign (.Name y py) X.env))) _ _ s;refine aJ (nB (wpAny_comprehension_free (use:=aB (assign (.Name y py) X.env)) (Q:=λ_ s'=>SP X pins D .next s') rfl hs (MC λy hy e=>I.ok.has _ (S.free y hy e)) S.kind S.names
  (bG (hi pins s σ H _ I h) λv s1 h1=>bG h1 λitv s2 h2=>?_)) (λ_ s' hq=>bg (bg hq)) λ_ _ e=>e)
 refine MI (Q:=λx H1=>jS i x σ H1 D.nx) (RR:=λacc C=>compPost (model X.prog X.w) X.A X.xe (aB (assign (.Name y py) X.env)) (λ_ s'=>SP X pins D .next s') acc C) S hc hg ht he h2 λd C H' s' m hC hn hI q=>?_;show wpAny _ X.A (assign (.Name y py) X.env (.ref d)) _ _ _;have I':Inv X pins σ H' s':=by have z:=hI s'.heap (.refl ..);exact z
 refine wpAny_assign_Name (LU I' hN Uv hy (v:=.ref d) rfl (λs'' Uw ⟨a,Av,ha⟩=>?_) hf);obtain⟨c0,c1,c2,c3,c4,c5⟩:=hC;have Ux:C≠a:=by rcases ha with rfl|ha;exact c1;exact λz=>c4 _ _ ha z.symm
 refine⟨m,hn.sameBut Av Ux,λh'' vL=>⟨_,H',Uw.turned (t':=s''.toks) (it:=C) (λb o hb e=>(vL.2 b hb).trans e) c0 c1 c3 c4 c5,q⟩⟩
end
mutual
inductive Rp(K:aO)(M:ah->Prop)(H:Hp):V->aA->Prop
 |aI:Rp K M H .aI .none
 |bl (b:Bool):Rp K M H (.bl b) (.bool b)
 |int (i:Int):Rp K M H (.int i) (.int i)
 |str (x:Str):Rp K M H (.str x) (.str x)
 |tup {a:ah} {xs:List V} {ds:List aA}:bZ K H a xs->¬M a->mE K M H xs ds->Rp K M H (.ref a) (.tuple ds)
 |lst {a:ah} {xs:List V} {ds:List aA}:cN K H a xs->¬M a->mE K M H xs ds->Rp K M H (.ref a) (.list ds)
inductive mE(K:aO)(M:ah->Prop)(H:Hp):List V->List aA->Prop
 |nil:mE K M H [] []
 |cons {x:V} {d:aA} {xs:List V} {ds:List aA}:Rp K M H x d->mE K M H xs ds->mE K M H (x::xs) (d::ds)
end
section
variable{X:Cx}{pins:List (ah×Obj)}{σ:St}{H:Hp}{s:af}{M:ah->Prop}
mutual
theorem Rp.reads(I:Inv X pins σ H s):∀{x:V} {d:aA} {u:aa},Rp X.K M H x d->RelV x u->∃as,Reads s.heap u d as
 |_,_,_,.aI,r=>by cases r;exact⟨_,.none⟩
 |_,_,_,.bl b,r=>by cases r;exact⟨_,.bool b⟩
 |_,_,_,.int i,r=>by obtain⟨t,rfl⟩:=r;exact⟨_,.int i t⟩
 |_,_,_,.str x,r=>by obtain⟨t,rfl⟩:=r;exact⟨_,.str x t⟩
 |_,_,_,.tup h n rr,r=>by
  cases r;obtain⟨its,rv,p,_⟩:=I.tuple h;obtain⟨o,ho,hc,m,hd⟩:=p;obtain⟨as,ra⟩:=mE.reads I rr rv;exact⟨_,.tuple ho hc hd (by simpa using ra)⟩
 |_,_,_,.lst h n rr,r=>by
  cases r;obtain⟨its,rv,p,_⟩:=I.list h;obtain⟨o,m,ho,hc,_,hd⟩:=p;obtain⟨as,ra⟩:=mE.reads I rr rv;exact⟨_,.list ho hc hd (by simpa using ra)⟩
theorem mE.reads(I:Inv X pins σ H s):∀{xs:List V} {ds:List aA} {us:List aa},mE X.K M H xs ds->Vals xs us->∃as,ReadsAll s.heap us ds as
 |_,_,_,.nil,.nil=>⟨_,.nil⟩
 |_,_,_,.cons r t,.cons q v=>by
  obtain⟨as,h1⟩:=Rp.reads I r q;obtain⟨bs,h2⟩:=mE.reads I t v;exact⟨_,.cons h1 h2⟩
end
noncomputable def Ax(K:aO):R2:=λx y H Q=>∃d e,Rp K (λ_=>False) H x d/\Rp K (λ_=>False) H y e/\SeqAt.shaped d=true/\SeqAt.shaped e=true/\Q (.bl (PyData.eqv d e)) H
noncomputable def Ay(K:aO):R2:=λx y H Q=>∃d e,Rp K (λ_=>False) H x d/\Rp K (λ_=>False) H y e/\SeqAt.shaped d=true/\SeqAt.shaped e=true/\Q (.bl (!PyData.eqv d e)) H
theorem Uy(hu:X.A.units+64<cLine):dW X (compareOp .Eq) (Ax X.K):=by intro pins s σ H x y v u Q I rx ry h;obtain⟨d,e,r1,r2,s1,s2,q⟩:=h;obtain⟨as,ra⟩:=r1.reads I rx;obtain⟨bs,rb⟩:=r2.reads I ry;exact PyProof.Rows.eq_dataH ra rb s1 s2 hu ⟨.bl _,H,I,rfl,q⟩
theorem Uz(hu:X.A.units+64<cLine):dW X (compareOp .NotEq) (Ay X.K):=by intro pins s σ H x y v u Q I rx ry h;obtain⟨d,e,r1,r2,s1,s2,q⟩:=h;obtain⟨as,ra⟩:=r1.reads I rx;obtain⟨bs,rb⟩:=r2.reads I ry;exact PyProof.Rows.ne_dataH ra rb s1 s2 hu ⟨.bl _,H,I,rfl,q⟩
end
section
variable{prog:ai}{w:aj}{A:ak}{E:aa->af->Prop}{s:af}
theorem MN{I t:ah}{k:Nat}{its:Array aa}{y:aa}{Q:aa->af->Prop}(hi:s.heap.IsTupleIter I t k)(ht:s.heap.IsTuple t its)(hy:its[k]?=aB y)
 (q:∀g,g.IsTupleIter I t (k+1)->Heap.SameBut I s.heap g->Q y {s with heap:=g}):wpAny (model prog w) A (Builtin.SmallTypes.nextOf (.ref I)) Q E s:=by
 obtain⟨oi,e1,e2,e3⟩:=id hi;obtain⟨ot,e4,_,kt,e5⟩:=ht;unfold Builtin.SmallTypes.nextOf;refine aJ (pQ (name:=Str.ofString "__next__") hi.typeIs DZ (kG DZ hi.typeIs F.entry_tuple_iterator_next ?_ (F.args_tuple_iterator_next_1 _)));show wpAny _ _ (field (.ref I) 0 >>= _) _ _ s;refine aJ (jf e1 e3 (x:=.ref t) rfl ?_);show wpAny _ _ (if(Value.ref t==Value.none)=true then _ else _) _ _ s;rw[if_neg (show ¬((Value.ref t==Value.none)=true)from λz=>nomatch z)];show wpAny _ _ (field (.ref I) 1 >>= _) _ _ s;refine aJ (jf e1 e3 (x:=.int k 0) rfl ?_);show wpAny _ _ (seqItems? (.ref t) >>= _) _ _ s;refine aJ (pS e4 e5 ?_);simp only[qI,hy];refine aJ (u6 e1 e3 (by simp) (bg ⟨y,rfl,bg (q _ ?_ (tG ..))⟩));refine⟨_,zp _ e1 (DW (tH e3 _)),(Obj.cls_mapFields ..).trans e2,?_⟩;rw[tH e3];simp[rawInt]
theorem HK{I t:ah}{k:Nat}{its:Array aa}{Q:aa->af->Prop}(hA:A.handled=aC)(hi:s.heap.IsTupleIter I t k)(ht:s.heap.IsTuple t its)(hy:its[k]?=aC)
 (q:∀g e,Heap.ExtBut I s.heap g->(∃o,g.get? e=aB o/\o.cls=.type "StopIteration")->E (.ref e) {s with heap:=g}):wpAny (model prog w) A (Builtin.SmallTypes.nextOf (.ref I)) Q E s:=by
 obtain⟨oi,e1,e2,e3⟩:=id hi;obtain⟨ot,e4,_,kt,e5⟩:=ht;unfold Builtin.SmallTypes.nextOf;refine aJ (pQ (name:=Str.ofString "__next__") hi.typeIs DZ (kG DZ hi.typeIs F.entry_tuple_iterator_next ?_ (F.args_tuple_iterator_next_1 _)));show wpAny _ _ (field (.ref I) 0 >>= _) _ _ s;refine aJ (jf e1 e3 (x:=.ref t) rfl ?_);show wpAny _ _ (if(Value.ref t==Value.none)=true then _ else _) _ _ s;rw[if_neg (show ¬((Value.ref t==Value.none)=true)from λz=>nomatch z)];show wpAny _ _ (field (.ref I) 1 >>= _) _ _ s;refine aJ (jf e1 e3 (x:=.int k 0) rfl ?_);show wpAny _ _ (seqItems? (.ref t) >>= _) _ _ s;refine aJ (pS e4 e5 ?_);simp only[qI,hy];refine aJ (u7 (aJ (u6 e1 e3 (by simp) ?_)));show wpAny _ _ (newExc (.type "StopIteration") [] >>= _) _ _ _;refine aJ ?_;simp only[newExc,newTuple];refine aJ (k9 ?_ (by size_fits));refine aJ (m:=firstArgMember _ _) (qo (a:=Value.none) (by first|rfl|(simp only[firstArgMember];rfl)) ?_);refine k9 ?_ (by size_fits);simp only[raiseNew];refine aJ (wpAny_handled ?_);first|rw[show A.in1.handled=aC from hA]|rw[hA]
 refine aJ (bg (wpAny_throw ?_));exact q _ _ (((tG ..).extBut.push _).push _) ⟨_,gh _ rfl,rfl⟩
end
theorem MO{h h':az}{a:ah}{its:Array aa}(x:h.IsTuple a its)(e:∀o,h.get? a=aB o->h'.get? a=aB o):h'.IsTuple a its:=let⟨o,ho,r⟩:=x;⟨o,e _ ho,r⟩
theorem UA{prog:ai}{w:aj}{A:ak}(hA:A.handled=aC)(I t:ah)(hne:t≠I)(its:Array aa) :
 Draws prog w A I [I,t] its.size (λi v=>its[i]?=aB v) (λi h=>h.IsTupleIter I t i/\h.IsTuple t its)where
 live:=λ_ _ st=>let⟨o,ho,_⟩:=st.1;⟨o,ho⟩
 frame:=λ_ _ _ st hk=>⟨st.1.at λo e=>hk I (by simp) o e,MO st.2 λo e=>hk t (by simp) o e⟩
 item:=λi s Q E hi st q=>MN st.1 st.2 (y:=its[i]) (by simp[hi]) λg a b=>q _ g s.toks (by simp[hi]) ⟨a,st.2.extBut b.extBut hne⟩ b
 done:=λs Q E st q=>HK hA st.1 st.2 (by simp) q
theorem UB(l:ah)(its:Array aa)(n:Nat)(dc:Option ah)(sl:Array (Option aa)) :
 Meets (Builtin.«enumerate.__new__» ⟨[.type "enumerate",.ref l],[]⟩) (λ_ R s=>s.heap.get? l=aB {cls:=.type "tuple",dict:=dc,data:=.seq its n,slots:=sl}/\
  R (.ok (.ret (.ref (s.heap.push {cls:=.type "tuple_iterator",data:=.fields #[.ref l,.int 0 0]}).objs.size)))
   {s with heap:=(s.heap.push {cls:=.type "tuple_iterator",data:=.fields #[.ref l,.int 0 0]}).push {cls:=.type "enumerate",data:=.fields #[.none,.bool false,.ref s.heap.objs.size,rawInt 0,.none,.none]}}):=
 .of_wp λprog w A R s h=>by
  obtain⟨hp,g,d,tk,os⟩:=s;obtain⟨e,h⟩:=h;have hsub:=sub_enumerate;have hT:Heap.IsTuple (Shared.heap ⟨hp,g,d,tk,os⟩) l its:=⟨_,e,rfl,n,rfl⟩
  wp_walk using AutoSeq1.wpAny_loadPart' e;refine wpAny_stack_any λst=>bg ?_;split;rename_i c _ _ _ _ _;cases(c==Value.type "enumerate")<;> (wp_walk using AutoSeq1.wpAny_loadPart' e,uY hT;exact⟨_,rfl,h⟩)
  .wp_walk using AutoSeq1.wpAny_loadPart' e,uY hT
   exact⟨_,rfl,h⟩
theorem UC{prog:ai}{w:aj}{A:ak}{E:aa->af->Prop}{s:af}{l:ah}{its:Array aa}{Q:aa->af->Prop}(hL:s.heap.IsTuple l its)
 (h:∀g,IsEnum g (s.heap.objs.size+1) s.heap.objs.size 0 .none->g.IsTupleIter s.heap.objs.size l 0->g.objs.size=s.heap.objs.size+2->(∀b o,s.heap.get? b=aB o->g.get? b=aB o)->Q (.ref (s.heap.objs.size+1)) {s with heap:=g}) :
 wpAny (model prog w) A (call (.type "enumerate") [.ref l]) Q E s:=by
 obtain⟨⟨c,dc,dt,sl⟩,e1,e2,n,e3⟩:=hL
 replace e2:c=.type "tuple":=e2
 replace e3:dt=.seq its n:=e3;subst e2 e3;refine Dw F.called_enumerate (by decide) (F.typeCall_enumerate_1 _) (F.newCall_enumerate_1 _) (λobj=>F.args_object_init_2 obj _) F.entry_enumerate_new (UB l its n dc sl) ⟨e1,?_⟩;have hz:(s.heap.push {cls:=.type "tuple_iterator",data:=.fields #[.ref l,.int 0 0]}).objs.size=s.heap.objs.size+1:=qH ..;show _/\_;rw[hz];have he:IsEnum ((s.heap.push {cls:=.type "tuple_iterator",data:=.fields #[.ref l,.int 0 0]}).push {cls:=.type "enumerate",data:=.fields #[.none,.bool false,.ref s.heap.objs.size,rawInt 0,.none,.none]}) (s.heap.objs.size+1) s.heap.objs.size 0 .none:=by rw[<-hz];exact gh _ rfl
 exact⟨⟨_,he,rfl⟩,h _ he ⟨_,dH _ (gh _ rfl),rfl,rfl⟩ (by rw[qH,hz]) λb o x=>dH _ (dH _ x)⟩
noncomputable def vM(K:aO)(a:ah):It:=
 ⟨λi H=>∃xs x,bZ K H a xs/\xs[i]?=aB x,λi H x H'=>∃T v,x=.ref T/\H T=aC/\H'=upd H T (.tup [.int i,v])/\∀xs,bZ K H a xs->xs[i]?=aB v,λi H=>∃xs,bZ K H a xs/\xs.length<=i⟩
theorem UD{P:ai}{w:aj}{K:aO}{elts:List ao}{kx:Nat}{tp:Pos}(a e it:ah)(hei:e≠it)(UE:a≠e)(hai:a≠it) :
 Turn P w K (.Tuple elts kx tp) (vM K a) [e,it] e (λi h=>(∃old,IsEnum h e it i old)/\h.IsTupleIter it a i)where
 mem:=by simp
 obj:=λi h st b hb=>by
  obtain⟨⟨old,he⟩,o,ho,hc,hd⟩:=st;rcases eV.mp hb with rfl|hb;exact⟨_,he,λv z=>by
   have z':Data.fields _=Data.cell v:=z;cases z'⟩
  have e':b=it:=by simpa using hb
  subst e';exact⟨o,ho,λv z=>by rw[hd]at z;cases z⟩
 keep:=λi h h' st k=>by
  obtain⟨⟨old,he⟩,st⟩:=st;exact⟨⟨old,k e (by simp) _ he⟩,st.at λo q=>k it (by simp) o q⟩
 item:=by
  intro X hP hw hK hc i pins s σ H E I hf st hg;subst hP hw hK;obtain⟨xs,x,hq,hx⟩:=hg;obtain⟨⟨old,he⟩,st⟩:=st;obtain⟨its,rv,p,hz⟩:=I.tuple hq;obtain⟨u,hu,ru⟩:=rv.get hx;have hd:X.A.in1.handled=aC:=I.ok.hd hc;have p:s.heap.IsTuple a its.toArray:=p;refine wpAny_pyNext_enum_itemD (UA hd it a hai its.toArray) he ⟨st,p⟩ (by
   have:i<its.length:=by rw[<-rv.length];exact(jK.mp hx).1
   simpa using this) hei (by simp[hei,gf UE]) λx' h1 tk hx' ho hit hT hsz hk=>?_
  obtain rfl:u=x':=by
   have:its[i]?=aB x':=by simpa using hx'
   rw[hu]at this;cases this;rfl
  refine⟨_,rfl,wpAny_letOwnedTupleGo_enum ho λh2 UG hs2=>?_⟩;have lE:H s.heap.objs.size=aC:=I.hok.fresh (bq _);have MP:s.heap.objs.size≠e:=mj (cP he);have UH:s.heap.objs.size≠it:=by obtain⟨o,q,_⟩:=st;exact mj (cP q)
  have hs2:Heap.SameBut e h1 h2:=hs2;have kk:∀b o,b≠e->b≠it->s.heap.get? b=aB o->h2.get? b=aB o:=λb o h1 h2 q=>(hs2.2 b h1).trans (hk b o h1 h2 q);have f0:=λb hb=>(hf b hb).1;have nE:∀b o,H b=aB o->b≠e/\b≠it:=λb o q=>⟨λz=>(by rw[z,f0 e (by simp)]at q;cases q),λz=>(by rw[z,f0 it (by simp)]at q;cases q)⟩
  have hT2:h2.get? s.heap.objs.size=aB {cls:=.type "tuple",data:=.seq #[.int i tk,u]}:=(hs2.2 _ MP).trans hT;have I2:Inv X pins σ (upd H s.heap.objs.size (.tup [.int i,x])) {s with heap:=h2,gens:=s.gens,drawn:=s.drawn,toks:=tk+1}:=by
   refine I.step (ch:=[e,it]) (λb hb=>?_) (λb o _ _ hc e1 _=>kk b o (λz=>hc (by simp[z])) (λz=>hc (by simp[z])) e1) (λb o _ _ hc e1 _=>⟨o.slots,kk b o (λz=>hc (by simp[z])) (λz=>hc (by simp[z])) e1⟩)
    (λb o hc e1 n=>by rw[bQ (fB (cP e1))];exact n) (λb o hc e1=>⟨o,kk b o (λz=>hc (by simp[z])) (λz=>hc (by simp[z])) e1⟩)
    (λb ys q=>by rw[bQ (gj q lE)];exact q) (λb o u q=>by rw[bQ (gj q lE)];exact q) (λb ps q=>⟨#[],by rw[bQ (gj q lE),q];simp⟩) (λm hm=>?_) (λb ob q=>?_) I.bare
   obtain⟨_,a1,a2,a3,a4,a5⟩:=hf b hb;exact⟨a3,a1,a4,a5⟩;obtain⟨o,es,ep,ho',r⟩:=hm;exact⟨o,es,ep,kk _ o (gf (hf e (by simp)).2.1) (gf (hf it (by simp)).2.1) ho',r⟩;by_cases hb:b=s.heap.objs.size;subst hb;rw[gi]at q;cases q;exact⟨by show 2<=sizeLine;decide,[.int i tk,u],.cons ⟨_,rfl⟩ (.cons ru .nil),⟨_,hT2,rfl,⟨_,rfl⟩,rfl⟩⟩;rw[bQ hb]at q;refine(I.hok b ob q).stay (λc v hc z=>kk c v ?_ ?_ z) (λc z=>by rw[bQ (gj z lE)];exact z) λc ys z=>by rw[bQ (gj z lE)];exact z
   rcases hc with rfl|hc;exact(nE c ob q).1;exact(nE c _ hc).1;rcases hc with rfl|hc;exact(nE c ob q).2;exact(nE c _ hc).2
  refine⟨.ref s.heap.objs.size,_,I2,rfl,⟨_,x,rfl,lE,rfl,λys hy=>by rw[I.fC hy hq];exact hx⟩,⟨⟨u,by simpa using UG⟩,hit.1.at λo q=>(hs2.2 it (gf hei)).trans q⟩,λb hb=>?_⟩;rw[bQ ?_];exact f0 b hb;rcases eV.mp hb with rfl|hb
  exact gf MP;have e':b=it:=by simpa using hb
  subst e';exact gf UH
 done:=by
  intro X hP hw hK hc i pins s σ H E I hf st hg;subst hP hw hK;obtain⟨xs,hq,hx⟩:=hg;obtain⟨⟨old,he⟩,st⟩:=st;obtain⟨its,rv,p,hz⟩:=I.tuple hq;obtain⟨f0,f1,f2,f3,f4,f5⟩:=hf it (by simp);have hl:=rv.length;have hd:X.A.in1.handled=aC:=I.ok.hd hc;have p:s.heap.IsTuple a its.toArray:=p;refine PySem.wpAny_pyNext_enum_endD (n:=0) (P:=λ_ _=>True) (St:=λ_ h=>h.IsTupleIter it a i/\h.IsTuple a its.toArray) (fp:=[it,a]) ⟨?_,?_,?_,?_⟩ he ⟨st,p⟩ λh' eb=>⟨rfl,I.turned (t':=s.toks) (λb o hb q=>eb b o hb q) f0 f1 f3 f4 f5⟩
  exact λ_ _ st=>let⟨o,ho,_⟩:=st.1;⟨o,ho⟩;exact λ_ _ _ st hk=>⟨st.1.at λo e=>hk it (by simp) o e,MO st.2 λo e=>hk a (by simp) o e⟩
  exact λj s' Q' E' hj=>absurd hj (Nat.not_lt_zero _);exact λs' Q' E' st' q'=>HK hd st'.1 st'.2 (by simp;lia) q'
 self:=λ_ _ _ _ _ st h=>by
  obtain⟨⟨old,he⟩,_⟩:=st;exact wpAny_pyIter_enum he h
section
variable{κ:Type}[DecidableEq κ]
noncomputable def fF(kvs:List (κ×V))(k:κ):Option V:=(kvs.find? λkv=>decide (kv.1=k)).map (·.2)
noncomputable def putK(kvs:List (κ×V))(k:κ)(v:V):List (κ×V):=
 if(kvs.any λkv=>decide (kv.1=k))=true then kvs.map (λkv=>if kv.1=k then(kv.1,v)else kv)else kvs++[(k,v)]
theorem EE{p:κ×V}{r:List (κ×V)}{k:κ}(e:p.1=k):fF (p::r) k=aB p.2:=by simp[fF,kB,e]
theorem Az{p:κ×V}{r:List (κ×V)}{k:κ}(e:¬p.1=k):fF (p::r) k=fF r k:=by simp[fF,kB,e]
theorem MQ(k:κ):∀kvs:List (κ×V),(kvs.any λkv=>decide (kv.1=k))=(fF kvs k).isSome
 |[]=>rfl
 |p::r=>by
  rw[xR];by_cases e:p.1=k;simp only[EE e,gg e,zl,Option.isSome_some];rw[Az e,fE e,Bool.false_or];exact MQ k r
theorem HL(kvs:List (κ×V))(k:κ)(v:V):(putK kvs k v).length<=kvs.length+1:=by unfold putK;split;rw[bF];lia;rw[fS,dG,qw];lia
theorem gJ.mF{o:Option V}{u:Option aa}(r:gJ o u):o.isSome=u.isSome:=by
 cases o with
 |none=>cases u with
  |none=>rfl
  |some _=>exact(show False from r).elim
 |some _=>cases u with
  |none=>exact(show False from r).elim
  |some _=>rfl
theorem gJ.getD{o:Option V}{u:Option aa}{d:V}{d':aa}(r:gJ o u)(rd:RelV d d'):RelV (o.getD d) (u.getD d'):=by
 cases o with
 |none=>cases u with
  |none=>exact rd
  |some _=>exact(show False from r).elim
 |some _=>cases u with
  |none=>exact(show False from r).elim
  |some _=>exact r
theorem KV.val{kvs:List (κ×V)}{vs:List (κ×aa)}(r:KV kvs vs)(k:κ):gJ (fF kvs k) (valueAt vs k):=by
 unfold KV at r;induction r with
 |nil=>exact True.intro
 | @cons p q ps qs h t ih=>
  obtain⟨h1,h2⟩:=h;by_cases e:p.1=k;have e':q.1=k:=h1.symm.trans e;have b:valueAt (q::qs) k=aB q.2:=by simp[valueAt,kB,e']
  rw[EE e,b];exact h2;have e':¬q.1=k:=λz=>e (h1.trans z);have b:valueAt (q::qs) k=valueAt qs k:=by simp[valueAt,kB,e']
  rw[Az e,b];exact ih
theorem KV.any{kvs:List (κ×V)}{vs:List (κ×aa)}(r:KV kvs vs)(k:κ):(kvs.any λkv=>decide (kv.1=k))=vs.any λkv=>decide (kv.1=k):=by
 unfold KV at r;induction r with|nil=>rfl|cons h t ih=>rw[xR,xR,ih,h.1]
theorem KV.repl{kvs:List (κ×V)}{vs:List (κ×aa)}(r:KV kvs vs)(k:κ){y:V}{u:aa}(ry:RelV y u) :
 KV (kvs.map λkv=>if kv.1=k then(kv.1,y)else kv) (vs.map λkv=>if kv.1=k then(kv.1,u)else kv):=by
 unfold KV at r ⊢;induction r with
 |nil=>exact .nil
 | @cons p q ps qs h t ih=>
  rw[dz,dz];refine .cons ?_ ih;obtain⟨h1,h2⟩:=h;by_cases e:p.1=k;rw[if_pos e,if_pos (h1.symm.trans e)];exact⟨h1,ry⟩;rw[if_neg e,if_neg (λz=>e (h1.trans z))];exact⟨h1,h2⟩
theorem KV.put{kvs:List (κ×V)}{vs:List (κ×aa)}(r:KV kvs vs)(k:κ){y:V}{u:aa}(ry:RelV y u):KV (putK kvs k y) (stored vs k u):=by unfold putK stored;rw[r.any k];by_cases e:(vs.any λkv=>decide (kv.1=k))=true;rw[if_pos e,if_pos e];exact r.repl k ry;rw[if_neg e,if_neg e];exact Paired.snoc r ⟨rfl,ry⟩
theorem KV.keys{kvs:List (κ×V)}{vs:List (κ×aa)}(r:KV kvs vs):kvs.map (·.1)=vs.map (·.1):=by
 unfold KV at r;induction r with|nil=>rfl|cons h t ih=>rw[dz,dz,ih,h.1]
theorem KV.length{kvs:List (κ×V)}{vs:List (κ×aa)}(r:KV kvs vs):kvs.length=vs.length:=vm r
end
theorem jZ{P:ai}{w:aj}{k:Key}{u:aa}(r:RelV (kV k) u):(iD P w).is k u=true:=by rcases k with i|_|x;obtain⟨t,e⟩:=(show ∃t,u=Value.int i t from r);subst e;exact RA P w i t;obtain e:=(show u=Value.none from r);subst e;rfl;obtain⟨t,e⟩:=(show ∃t,u=Value.str x t from r);subst e;exact RB P w x t
theorem MR{P:ai}{w:aj}:∀{ks:List Key} {us:List aa},Vals (ks.map kV) us->ItemsAre (iD P w) ks us
 |[],_,r=>by rw[nH]at r;cases r;exact .nil
 |k::ks,_,r=>by
  rw[dz]at r;cases r with|cons h t=>exact .cons (jZ h) (MR t)
noncomputable abbrev KT(H:Hp):List (List Key×V)->List (List Key×ah×aa)->Prop:=Paired λp q=>p.1=q.1/\H q.2.1=aB (.tup (p.1.map kV))/\RelV p.2 q.2.2
theorem KT.val{H:Hp}{kvs:List (List Key×V)}{xs:List (List Key×ah×aa)}(r:KT H kvs xs)(k:List Key):gJ (fF kvs k) ((atKey xs k).map (·.2)):=by
 induction r with
 |nil=>exact True.intro
 | @cons p q ps qs h t ih=>
  obtain⟨h1,_,h2⟩:=h;by_cases e:p.1=k;have e':q.1=k:=h1.symm.trans e;have b:atKey (q::qs) k=aB q.2:=by simp[atKey,kB,e']
  rw[EE e,b];exact h2;have e':¬q.1=k:=λz=>e (h1.trans z);have b:atKey (q::qs) k=atKey qs k:=by simp[atKey,kB,e']
  rw[Az e,b];exact ih
theorem KT.repl{H:Hp}{kvs:List (List Key×V)}{xs:List (List Key×ah×aa)}(r:KT H kvs xs)(k:List Key){y:V}{u:aa}(ry:RelV y u) :
 KT H (kvs.map λkv=>if kv.1=k then(kv.1,y)else kv) (xs.map (putAt k u)):=by
 induction r with
 |nil=>exact .nil
 | @cons p q ps qs h t ih=>
  rw[dz,dz];refine .cons ?_ ih;obtain⟨h1,h2,h3⟩:=h;unfold putAt;by_cases e:p.1=k;rw[if_pos e,if_pos (h1.symm.trans e)];exact⟨h1,h2,ry⟩;rw[if_neg e,if_neg (λz=>e (h1.trans z))];exact⟨h1,h2,h3⟩
theorem KT.put{H:Hp}{kvs:List (List Key×V)}{xs:List (List Key×ah×aa)}(r:KT H kvs xs)(k:List Key){b:ah}{y:V}{u:aa}(hb:H b=aB (.tup (k.map kV)))(ry:RelV y u) :
 KT H (putK kvs k y) (storedH xs k b u):=by
 have e:(kvs.any λkv=>decide (kv.1=k))=(atKey xs k).isSome:=by rw[MQ,(r.val k).mF,Option.isSome_map]
 unfold putK storedH;rw[e];by_cases q:(atKey xs k).isSome=true;rw[if_pos q,if_pos q];exact r.repl k ry;rw[if_neg q,if_neg q];exact Paired.snoc r ⟨rfl,hb,ry⟩
theorem KT.keeps{H H':Hp}{kvs:List (List Key×V)}{xs:List (List Key×ah×aa)}(r:KT H kvs xs)(ht:∀b ys,H b=aB (.tup ys)->H' b=aB (.tup ys)):KT H' kvs xs:=
 Paired.vp r λ_ _ z=>⟨z.1,ht _ _ z.2.1,z.2.2⟩
section
variable{P:ai}{w:aj}{H:Hp}{h:az}{a:ah}
theorem tS{u:HO}(ok:fN P w H h)(e:Rd H a u):aZ P w H h a u:=e.ok ok
theorem iF{kvs:List (Key×V)}(ok:fN P w H h)(e:Rd H a (.dK kvs)):kvs.length<=sizeLine/\(a==sysModules)=false/\∃vs,KV kvs vs/\h.DictOf (iD P w) a vs:=
 show aZ P w H h a (.dK kvs)from tS ok e
theorem nU{kvs:List (Key×V)}(ok:fN P w H h)(e:H a=aB (.dK kvs)):kvs.length<=sizeLine/\(a==sysModules)=false/\∃vs,KV kvs vs/\h.DictOf (iD P w) a vs:=iF ok (.inl e)
theorem EF{ks:List Key}(ok:fN P w H h)(e:H a=aB (.tup (ks.map kV))):(tupleKind (iD P w)).is h ks a:=by
 obtain⟨_,its,r,o,h1,h2,⟨n,h3⟩,_⟩:=(show aZ P w H h a (.tup (ks.map kV))from ok a _ e)
 exact⟨o,its.toArray,n,h1,h2,h3,by simpa using MR r⟩
theorem j0{kvs:List (List Key×V)}(ok:fN P w H h)(e:Rd H a (.dT kvs)):kvs.length<=sizeLine/\(a==sysModules)=false/\
 ∃xs,KT H kvs xs/\h.DictOfH (tupleKind (iD P w)) a xs:=by
 obtain⟨z,y,xs,r,o,es,ep,h1,h2,h3,h4,h5⟩:=(show aZ P w H h a (.dT kvs)from tS ok e)
 refine⟨z,y,xs,r,o,es,ep,h1,h2,h3,h4,λx hx=>?_,h5⟩;have all:∀{l:List (List Key×V)}{m:List (List Key×ah×aa)},KT H l m->∀x∈m,(tupleKind (iD P w)).is h x.1 x.2.1:=by
  intro l m q;induction q with
  |nil=>intro x hx;exact nomatch hx
  | @cons p q ps qs hq t ih=>
   intro x hx;rcases eV.mp hx with e|hx
   subst e;exact EF ok (by rw[<-hq.1];exact hq.2.1);exact ih x hx
 exact all r x hx
theorem AA{kvs:List (List Key×V)}(ok:fN P w H h)(e:H a=aB (.dT kvs)):kvs.length<=sizeLine/\(a==sysModules)=false/\
 ∃xs,KT H kvs xs/\h.DictOfH (tupleKind (iD P w)) a xs:=j0 ok (.inl e)
end
noncomputable def mG(H:Hp)(a:ah)(y:V)(r:Option V):Prop:=
 (∃kvs k,Rd H a (.dK kvs)/\y=kV k/\r=fF kvs k)\/∃kvs k b,Rd H a (.dT kvs)/\y=.ref b/\H b=aB (.tup (k.map kV))/\r=fF kvs k
noncomputable def qY(H:Hp)(a:ah)(y v:V)(H':Hp):Prop:=
 (∃kvs k,H a=aB (.dK kvs)/\y=kV k/\kvs.length<sizeLine/\H'=upd H a (.dK (putK kvs k v)))\/
 ∃kvs k b,H a=aB (.dT kvs)/\y=.ref b/\H b=aB (.tup (k.map kV))/\kvs.length<sizeLine/\H'=upd H a (.dT (putK kvs k v))
theorem qY.k{H:Hp}{a:ah}{kvs:List (Key×V)}{k:Key}{v:V}(e:H a=aB (.dK kvs))(hl:kvs.length<sizeLine):qY H a (kV k) v (upd H a (.dK (putK kvs k v))):=.inl ⟨kvs,k,e,rfl,hl,rfl⟩
section
variable{X:Cx}{pins:List (ah×Obj)}{σ:St}{H:Hp}{s:af}{a:ah}{y v:V}{u r:aa}{o:Option V}{A:ak}{E:aa->af->Prop}
theorem Inv.big(I:Inv X pins σ H s):sysModules<s.heap.objs.size:=by have h:mainGlobals<s.heap.objs.size:=(I.mod.glob.keeps I.bk).lt;exact Nat.lt_trans (by decide) h
theorem UI{Q:aa->af->Prop}(hu:A.units+1<cLine)(I:Inv X pins σ H s)(g:mG H a y (aB v))(ry:RelV y u)(h:∀w' s',Inv X pins σ H s'->RelV v w'->Q w' s') :
 wpAny (model X.prog X.w) A (getItem (.ref a) u) Q E s:=by
 rcases g with⟨kvs,k,e,ey,l⟩|⟨kvs,k,b,e,ey,eb,l⟩;subst ey;obtain⟨z,hd,vs,rel,dd⟩:=iF I.hok e;obtain⟨w',hw,rw'⟩:=gJ.some_of (v:=v) (o:=valueAt vs k) (by rw[l];exact rel.val k);exact wpAny_getItem_of (jZ ry) dd.mapOf hw (h w' _ (I.tok _) rw');subst ey;cases(show u=Value.ref b from ry);obtain⟨z,hd,xs,rel,dd⟩:=j0 I.hok e;obtain⟨w',hw,rw'⟩:=gJ.some_of (v:=v) (o:=(atKey xs k).map (·.2)) (by rw[l];exact rel.val k);obtain⟨p,hp,hp2⟩:=Option.map_eq_some_iff.mp hw;refine wpAny_getItem_heap (tupleKind_room_in1 hu) (EF I.hok eb) dd hp ?_;rw[hp2];exact h w' _ (I.tok _) rw'
theorem AB{h':az}{t':Nat}{ob:HO}(I:Inv X pins σ H s)(mu:tK (H a))(hs:Heap.SameBut a s.heap h')(he:∃q,h'.get? a=aB q)(new:aZ X.prog X.w (upd H a ob) h' a ob) :
 Inv X pins σ (upd H a ob) {s with heap:=h',toks:=t'}:=
 I.write (x:=a) (e:=a) mu (.inl rfl) (λb q hb z=>(hs.2 b hb).trans z) he new
theorem MS{P:ai}{w:aj}{H':Hp}{h':az}{kvs:List (Key×V)}{vs:List (Key×aa)}(z:kvs.length<=sizeLine)(hd:(a==sysModules)=false)(rel:KV kvs vs)(dd:h'.DictOf (iD P w) a vs) :
 aZ P w H' h' a (.dK kvs):=⟨z,hd,vs,rel,dd⟩
theorem UJ{H':Hp}{Q:Unit->af->Prop}(hu:A.units+1<cLine)(I:Inv X pins σ H s)(g:qY H a y v H')(ry:RelV y u)(rv:RelV v r)(h:∀s',Inv X pins σ H' s'->Q () s') :
 wpAny (model X.prog X.w) A (setItem (.ref a) u r) Q E s:=by
 rcases g with⟨kvs,k,e,ey,l,eH⟩|⟨kvs,k,b,e,ey,eb,l,eH⟩;subst ey eH;obtain⟨z,hd,vs,rel,dd⟩:=nU I.hok e;have hz:vs.length<=sizeLine:=by rw[<-rel.length];exact z
 have hl:(putK kvs k v).length<=sizeLine:=by have:=HL kvs k v;lia
 refine wpAny_setItem_pairs (hsz:=hz) (jZ ry) dd λh' nV hs=>h _ ?_;have he:∃q,h'.get? a=aB q:=let⟨q,_,_,hq,_⟩:=nV;⟨q,hq⟩;exact AB I (by rw[e];exact True.intro) hs he (MS hl hd (rel.put k rv) nV);subst ey eH;cases(show u=Value.ref b from ry);obtain⟨z,hd,xs,rel,dd⟩:=AA I.hok e;have hz:xs.length<=sizeLine:=by rw[<-vm rel];exact z
 have hl:(putK kvs k v).length<=sizeLine:=by have:=HL kvs k v;lia
 refine wpAny_setItem_heap (hsz:=hz) (tupleKind_room_in1 hu) (EF I.hok eb) dd λh' nV hs=>h _ ?_;obtain⟨q,es,ep,hq,h2,h3,h4,_,h5⟩:=nV;refine AB I (by rw[e];exact True.intro) hs ⟨q,hq⟩ ⟨hl,hd,_,(rel.put k eb rv).keeps λc ys ec=>?_,q,es,ep,hq,h2,h3,h4,h5⟩;rw[bQ (dI ec e (λz=>nomatch z))];exact ec
end
theorem UK{X:Cx}{pins:List (ah×Obj)}{σ:St}{H:Hp}{s:af}{a:ah}{y:V}{o:Option V}(I:Inv X pins σ H s)(g:mG H a y o):s.TypeIs (.ref a) "dict":=by rcases g with⟨kvs,k,e,_,_⟩|⟨kvs,k,b,e,_,_,_⟩;obtain⟨_,_,vs,_,dd⟩:=iF I.hok e;exact dd.typeIs;obtain⟨_,_,xs,_,dd⟩:=j0 I.hok e;exact dd.typeIs
theorem MT{P:ai}{w:aj}{H:Hp}(h:az)(hb:sysModules<h.objs.size):aZ P w H (h.push {cls:=.type "dict",data:=.dict #[]}) h.objs.size (.dK []):=
 ⟨gX _,beq_eq_false_iff_ne.mpr (gf (fB hb)),[],.nil,Heap.DictOf.new h⟩
noncomputable def UL:TE:=λ_ H Q=>∀p,H p=aC->Q (.ref p) (upd H p (.dK []))
section
variable{X:Cx}{pos:Pos}
theorem MU:PE X (.Dict [] [] pos) UL:=λpins s σ H Q I h=>
 wpAny_Dict_empty ⟨.ref s.heap.objs.size,_,I.laid (a:=s.heap.objs.size) (o:=.dK []) (t':=s.toks) (λ_ _ q=>dH _ q) (bq _) (MT s.heap I.big),rfl,h _ (I.hok.fresh (bq _))⟩
end
noncomputable def EG:List (TE×TE)->St->Hp->(List (V×V)->Hp->Prop)->Prop|[],_,H,Q=>Q [] H|(tk,tv)::r,σ,H,Q=>tk σ H λx H1=>tv σ H1 λy H2=>EG r σ H2 λps H3=>Q ((x,y)::ps) H3
noncomputable abbrev VV:List (V×V)->List (aa×aa)->Prop:=Paired λp q=>RelV p.1 q.1/\RelV p.2 q.2
noncomputable def AD(X:Cx)(pos:Pos)(keys:List (Option ao))(values:List ao)(lF:List (TE×TE)):Prop:=
 ∀(pins:List (ah×Obj))(s:af)(σ:St)(H:Hp)(Q:List (V×V)->Hp->Prop),Inv X pins σ H s->EG lF σ H Q->
  wpAny (model X.prog X.w) X.A (evalPairs (pairTrees keys values X.env pos)) (λvs s'=>∃ps H',Inv X pins σ H' s'/\VV ps vs/\Q ps H') X.xe s
theorem UM{X:Cx}{pos:Pos}:AD X pos [] [] []:=λpins s σ H Q I h=>pairTrees_nil_walk ⟨[],H,I,.nil,h⟩
theorem UN{X:Cx}{pos:Pos}{k v:ao}{ks:List (Option ao)}{vs:List ao}{tk tv:TE}{lF:List (TE×TE)}(hk:PE X k tk)(hv:PE X v tv)(hr:AD X pos ks vs lF) :
 AD X pos (aB k::ks) (v::vs) ((tk,tv)::lF):=λpins s σ H Q I h=>
 pairTrees_cons_walk (bG (hk pins s σ H _ I h) λu s1 z9=>z9.el λx H1 I1 rx q1=>bG (hv pins s1 σ H1 _ I1 q1) λw2 s2 z9=>z9.el λy H2 I2 ry q2=>
  bG (hr pins s2 σ H2 _ I2 q2) λws s3 ⟨ps,H3,I3,rel,q3⟩=>⟨(x,y)::ps,H3,I3,.cons ⟨rx,ry⟩ rel,q3⟩)
noncomputable def tT(kvs more:List (Key×V)):List (Key×V):=more.foldl (λacc kv=>putK acc kv.1 kv.2) kvs
theorem KV.merge:∀{more:List (Key×V)} {rs:List (Key×aa)} {kvs:List (Key×V)} {vs:List (Key×aa)},KV more rs->KV kvs vs->KV (tT kvs more) (merged vs rs):=by
 intro more rs kvs vs r;unfold KV at r;induction r generalizing kvs vs with
 |nil=>intro q;exact q
 | @cons p q ps qs h t ih=>
  intro r0;have e:KV (putK kvs p.1 p.2) (stored vs q.1 q.2):=by have:=r0.put p.1 h.2;rw[<-h.1];exact this
  exact ih e
theorem MV:∀(more kvs:List (Key×V)),(tT kvs more).length<=kvs.length+more.length
 |[],kvs=>by show kvs.length<=kvs.length+0;lia
 |p::r,kvs=>by
  have h1:=MV r (putK kvs p.1 p.2);have h2:=HL kvs p.1 p.2;show(tT (putK kvs p.1 p.2) r).length<=_;rw[dG];lia
theorem MW{P:ai}{w:aj}:∀{kvs:List (Key×V)} {ws:List (aa×aa)},VV (kvs.map λkv=>(kV kv.1,kv.2)) ws->∃rs,Carries (iD P w) ws rs/\KV kvs rs
 |[],_,r=>by rw[nH]at r;cases r;exact⟨[],True.intro,.nil⟩
 |p::kvs,_,r=>by
  rw[dz]at r;cases r with
  | @cons a b as bs h t=>
   obtain⟨rs,c,q⟩:=MW (P:=P) (w:=w) t;obtain⟨b1,b2⟩:=b;exact⟨(p.1,b2)::rs,⟨jZ h.1,rfl,c⟩,.cons ⟨rfl,h.2⟩ q⟩
structure M2(X:Cx)(o:ao)(m:Str)(apos:Pos)(e f:ao)(cpos:Pos):Prop where
 base:attributeBase o m X.env (eval o X.env)=eval o X.env
 few:((backTo cpos (starEach [e,f] X.env)).all (λx=>!x.1)&& (backToKw cpos (keywordEach [] X.env)).all (λx=>x.1.isSome)
  && decide (([e,f]:List ao).length+ ([]:List Keyword).length+ (if([]:List Keyword).isEmpty then 0 else 1)<30))=true
 line:(apos.endLine==cpos.line)=true
 trees:backTo cpos (starEach [e,f] X.env)=[(false,eval e X.env),(false,eval f X.env)]
noncomputable def MX(H:Hp)(a:ah):Prop:=(∃kvs,Rd H a (.dK kvs))\/∃kvs,Rd H a (.dT kvs)
theorem UO{X:Cx}{pins:List (ah×Obj)}{σ:St}{H:Hp}{s:af}{a:ah}(I:Inv X pins σ H s)(d:MX H a) :
 s.TypeIs (.ref a) "dict"/\(∀b,Value.ref a=.ref b->∃ob,s.heap.get? b=aB ob/\ob.dict=aC)/\(a==sysModules)=false:=by
 rcases d with⟨kvs,e⟩|⟨kvs,e⟩;obtain⟨_,hd,vs,_,dd⟩:=iF I.hok e;refine⟨dd.typeIs,λb q=>?_,hd⟩;cases q;obtain⟨ob,_,_,h1,h2,_⟩:=dd;exact⟨ob,h1,h2.2.1⟩;obtain⟨_,hd,xs,_,dd⟩:=j0 I.hok e;refine⟨dd.typeIs,λb q=>?_,hd⟩;cases q;obtain⟨ob,_,_,h1,h2,_⟩:=dd;exact⟨ob,h1,h2.2.1⟩
section
variable{X:Cx}{pins:List (ah×Obj)}{σ:St}{H:Hp}{s:af}{a:ah}{y d:V}{u r:aa}{o:Option V}{A:ak}{E:aa->af->Prop}
theorem UP{Q:aa->af->Prop}(hu:A.units+1<cLine)(I:Inv X pins σ H s)(g:mG H a y o)(ry:RelV y u)(rd:RelV d r)(h:∀w' s',Inv X pins σ H s'->RelV (o.getD d) w'->Q w' s') :
 wpAny (model X.prog X.w) A (call (.builtin "dict.get") [.ref a,u,r]) Q E s:=by
 rcases g with⟨kvs,k,e,ey,l⟩|⟨kvs,k,b,e,ey,eb,l⟩;subst ey;obtain⟨z,hd,vs,rel,dd⟩:=iF I.hok e;refine call_meetsIn PySem.F.slot_dict_get dd.typeIs PySem.F.entry_dict_get (PySem.F.args_dict_get_3 _ _ _) (meets_dict_get_default (iD X.prog X.w) a (jZ ry) hd r) ⟨_,dd.mapOf,h _ _ (I.tok _) ?_⟩;rw[l];exact(rel.val k).getD rd;subst ey;cases(show u=Value.ref b from ry);obtain⟨z,hd,xs,rel,dd⟩:=j0 I.hok e;refine call_meetsIn PySem.F.slot_dict_get dd.typeIs PySem.F.entry_dict_get (PySem.F.args_dict_get_3 _ _ _) (meetsH_dict_get_default (tupleKind (iD X.prog X.w)) a b hd r) ⟨tupleKind_room_in1 hu,k,xs,EF I.hok eb,dd,h _ _ (I.tok _) ?_⟩;rw[l];exact(rel.val k).getD rd
end
noncomputable def UQ(td ty tx:TE):TE:=λσ H Q=>td σ H λx H1=>∃a,x=.ref a/\MX H1 a/\ty σ H1 λy H2=>tx σ H2 λz H3=>∃o,mG H3 a y o/\Q (o.getD z) H3
section
variable{X:Cx}{o e f:ao}{apos cpos:Pos}{td ty tx:TE}
theorem UR(hu:X.A.units+1<cLine)(ho:PE X o td)(he:PE X e ty)(hf:PE X f tx)(m:M2 X o "get" apos e f cpos):PE X (.Call (.Attribute o "get" apos) [e,f] [] cpos) (UQ td ty tx):=by
 intro pins s σ H Q I h;refine wpAny_Call_method m.base m.few m.line PySem.F.plainAttrs_dict PySem.F.slot_dict_get PySem.F.type_dict_get (bG (ho pins s σ H _ I h) λu s1 z9=>z9.el λx H1 I1 rx dU=>?_);obtain⟨a,ex,d,q1⟩:=dU;subst ex;obtain rfl:u=Value.ref a:=rx;obtain⟨t1,t2,_⟩:=UO I1 d;refine⟨t1,t2,?_⟩;rw[m.trees];refine Calls.callWith_builtin rfl (Calls.evalArgs_plain (Calls.spliced_cons (bG (he pins s1 σ H1 _ I1 q1) λiv s2 z9=>z9.el λy H2 I2 ry q2=>
  Calls.spliced_cons (bG (hf pins s2 σ H2 _ I2 q2) λfv s3 z9=>z9.el λz H3 I3 rz ⟨ov,g,q3⟩=>Calls.spliced_nil ?_))))
 exact UP hu I3 g ry rz λw' s4 I4 rw'=>⟨_,H3,I4,rw',q3⟩
end
section
variable{X:Cx}
noncomputable def fP(ds:List aA)(d:aA):Bool:=ds.any λe=>PyData.eqv e d
noncomputable def qZ(K:aO)(neg:Bool):R2:=λx y H Q=>∃p xs ds d,y=.ref p/\(cN K H p xs\/bZ K H p xs)/\mE K (λ_=>False) H xs ds/\Rp K (λ_=>False) H x d/\ds.all SeqAt.shaped=true/\SeqAt.shaped d=true/\Q (.bl (if neg then !fP ds d else fP ds d)) H
theorem HM{h:az}:∀{us:List aa} {ds:List aA} {as:List ah} {i:Nat} {u:aa},ReadsAll h us ds as->us[i]?=aB u->∃d bs,ds[i]?=aB d/\Reads h u d bs
 |_,_,_,i,u,.nil,e=>by simp at e
 |_,_,_,0,u,.cons r _,e=>by simp at e;subst e;exact⟨_,_,rfl,r⟩
 |_,_,_,i+1,u,.cons _ rs,e=>by
  obtain⟨d,bs,h1,h2⟩:=HM rs (by simpa using e);exact⟨d,bs,by simpa using h1,h2⟩
open Classical in
noncomputable def ff(us:List aa)(ds:List aA)(d:aA)(u:aa):Bool:=decide (∃(i:Nat) (e:aA),us[i]?=aB u/\ds[i]?=aB e/\PyData.eqv e d=true)
open Classical in
theorem EH{us:List aa}{ds:List aA}{d:aA}{u:aa}:ff us ds d u=true↔∃(i:Nat) (e:aA),us[i]?=aB u/\ds[i]?=aB e/\PyData.eqv e d=true:=by unfold ff;exact decide_eq_true_iff
theorem EI{us:List aa}{ds:List aA}{d:aA}(hl:us.length=ds.length):us.any (ff us ds d)=fP ds d:=by
 cases q:fP ds d with
 |true=>
  unfold fP at q;rw[List.any_eq_true]at q;obtain⟨e,h1,h2⟩:=q;obtain⟨i,hi,h3⟩:=List.mem_iff_getElem.mp h1;rw[List.any_eq_true];refine⟨us[i]'(by lia),nF _,?_⟩;rw[EH];exact⟨i,e,by simp,by rw[iA hi,h3],h2⟩
 |false=>
  unfold fP at q;rw[List.any_eq_false]at q ⊢;intro u hu z;rw[EH]at z;obtain⟨i,e,h1,h2,h3⟩:=z;exact q e (l9 h2) h3
theorem AE{h:az}:∀{us:List aa} {ds:List aA} {as:List ah},ReadsAll h us ds as->us.length=ds.length|_,_,_,.nil=>rfl|_,_,_,.cons _ r=>by rw[dG,dG,AE r]
theorem EJ{A:ak}{s:af}{us:List aa}{ds:List aA}{as bs:List ah}{d:aA}{v:aa}(hu:A.units+64<cLine)(ra:ReadsAll s.heap us ds as)(rb:Reads s.heap v d bs)(s1:ds.all SeqAt.shaped)(s2:SeqAt.shaped d) :
 ∀u∈us,SeqAt.EqAt A s u v (ff us ds d u):=by
 intro u hm;have sh:∀(i:Nat)(e:aA),ds[i]?=aB e->SeqAt.shaped e=true:=λi e q=>lq.mp s1 e (l9 q);cases q:ff us ds d u with
 |true=>
  rw[EH]at q;obtain⟨i,e,h1,h2,h3⟩:=q;obtain⟨e',cs,h4,h5⟩:=HM ra h1;rw[h2]at h4;cases h4;have:=SeqAt.eqAt_reads e d A s u v cs bs h5 rb (Ef (sh i e h2)) (Ef s2) (SeqAt.room_of_shaped (sh i e h2) hu);rw[h3]at this;exact this
 |false=>
  obtain⟨i,hi,h1⟩:=List.mem_iff_getElem.mp hm;have h1:us[i]?=aB u:=by rw[iA hi,h1]
  obtain⟨e,cs,h4,h5⟩:=HM ra h1;have h3:PyData.eqv e d=false:=by
   cases z:PyData.eqv e d with
   |false=>rfl
   |true=>
    rw[EH.mpr ⟨i,e,h1,h4,z⟩]at q;cases q
  have:=SeqAt.eqAt_reads e d A s u v cs bs h5 rb (Ef (sh i e h4)) (Ef s2) (SeqAt.room_of_shaped (sh i e h4) hu);rw[h3]at this;exact this
theorem US(hu:X.A.in1.units+64<cLine):dW X (compareOp .In) (qZ X.K false):=by
 intro pins s σ H x y v u Q I rx ry h;obtain⟨p,xs,ds,d,rfl,hq,r1,r2,s1,s2,q⟩:=h;cases ry;obtain⟨bs,rb⟩:=r2.reads I rx;rcases hq with hq|hq
 obtain⟨its,r,pl,hz⟩:=I.list hq;obtain⟨as,ra⟩:=r1.reads I r;refine SeqAt.in_listAt (ff its ds d) pl.isList (λw hw=>EJ hu ra rb s1 s2 w (by simpa using hw)) ⟨.bl _,H,I,rfl,?_⟩;rw[show its.toArray.any (ff its ds d)=its.any (ff its ds d) by simp,EI (AE ra)];exact q;obtain⟨its,r,pl,hz⟩:=I.tuple hq;obtain⟨as,ra⟩:=r1.reads I r;refine SeqAt.in_tupleAt (ff its ds d) pl (λw hw=>EJ hu ra rb s1 s2 w (by simpa using hw)) ⟨.bl _,H,I,rfl,?_⟩;rw[show its.toArray.any (ff its ds d)=its.any (ff its ds d) by simp,EI (AE ra)];exact q
theorem UT(hu:X.A.in1.units+64<cLine):dW X (compareOp .NotIn) (qZ X.K true):=by
 intro pins s σ H x y v u Q I rx ry h;obtain⟨p,xs,ds,d,rfl,hq,r1,r2,s1,s2,q⟩:=h;cases ry;obtain⟨bs,rb⟩:=r2.reads I rx;rcases hq with hq|hq
 obtain⟨its,r,pl,hz⟩:=I.list hq;obtain⟨as,ra⟩:=r1.reads I r;refine SeqAt.notIn_listAt (ff its ds d) pl.isList (λw hw=>EJ hu ra rb s1 s2 w (by simpa using hw)) ⟨.bl _,H,I,rfl,?_⟩;rw[show its.toArray.any (ff its ds d)=its.any (ff its ds d) by simp,EI (AE ra)];exact q;obtain⟨its,r,pl,hz⟩:=I.tuple hq;obtain⟨as,ra⟩:=r1.reads I r;refine SeqAt.notIn_tupleAt (ff its ds d) pl (λw hw=>EJ hu ra rb s1 s2 w (by simpa using hw)) ⟨.bl _,H,I,rfl,?_⟩;rw[show its.toArray.any (ff its ds d)=its.any (ff its ds d) by simp,EI (AE ra)];exact q
end
end L2
namespace HT
open PySem PySem.Spec PyProof.Rows
section
variable{prog:ai}{w:aj}{A:ak}{E:aa->af->Prop}{s:af}
theorem fG{t sl:ah}{items:Array aa}{vl vu:aa}{lo hi:Option Int}{Q:aa->af->Prop}(ht:IsTup s.heap t items)(hs:s.heap.IsSliceOf sl vl vu .none)(pl:IsPart vl lo)(pu:IsPart vu hi)
 (hw:bI items.size 0 lo=0/\bI items.size items.size hi=items.size)
 (h:Q (.ref t) s):wpAny (model prog w) A (getItem (.ref t) (.ref sl)) Q E s:=by
 obtain⟨os,hos,hcs,hds⟩:=id hs;have Hr:s.TypeIs (.ref sl) "slice":=⟨os,hos,hcs⟩
 unfold getItem
 try with_reducible refine nA ?_
 first|refine aJ (bg ?_)|skip
 refine aJ (wpAny_sequenceKey ht.typeIs (by decide) ?_);refine aJ (pQ (name:=Str.ofString "__getitem__") ht.typeIs xY
  (kG xY ht.typeIs entry_tuple_getitem ?_ (args_tuple_getitem _ _)))
 show wpAny _ _ (Builtin.Tuple.tupleItemsOf (.ref t) >>= _) _ _ s;refine aJ (tupleItemsOf_ ht ?_);refine aJ (Dv Hr ?_);rw[if_pos (by decide)];refine aJ (Mm hs pl pu ?_);have hyes:((((bI items.size 0 lo:Nat):Int)==0&& (1:Int)==1&& (bI items.size items.size hi-bI items.size 0 lo)==items.size)):=by rw[hw.1,hw.2];simp
 show wpAny _ _ (if(((bI items.size 0 lo:Nat):Int)==0&& (1:Int)==1&& (bI items.size items.size hi-bI items.size 0 lo)==items.size)=true then _ else _) _ _ s;rw[if_pos hyes];unfold Builtin.Tuple.tupleIsExact;refine aJ (aJ (Dv ht.typeIs (bg ?_)));rw[if_pos (by decide)];refine aJ (u7 ?_);exact bg ⟨_,rfl,bg h⟩
end
end HT
namespace L2
open PySem PySem.Spec PyProof.Rows
variable{X:Cx}
noncomputable def AF(K:aO):V->Option Int->Option Int->Hp->VK->Prop:=λx lo hi H Q=>∃a xs,x=.ref a/\bZ K H a xs/\
 (HT.bI xs.length 0 lo=0/\HT.bI xs.length xs.length hi=xs.length)/\Q (.ref a) H
theorem UU:qW X (AF X.K):=by
 intro pins s σ H x v vl vu lo hi sl Q I rx hs pl pu h;obtain⟨a,xs,rfl,hx,hw,q⟩:=h;cases rx;obtain⟨its,r,ht,hz⟩:=I.tuple hx;have hlen:its.toArray.size=xs.length:=by rw[eY];exact r.length.symm
 refine⟨"tuple",_,xY.lookup,ht.typeIs,?_⟩;refine HT.fG ht hs pl pu (by rw[hlen];exact hw) ?_;exact⟨.ref a,_,I,rfl,q⟩
noncomputable def HN(K:aO):V->Option Int->Option Int->Hp->VK->Prop:=λx lo hi H Q=>(Ag K x lo hi H Q\/AF K x lo hi H Q)\/Al K x lo hi H Q
theorem UW:qW X (HN X.K):=(Tu.or UU).or TM
noncomputable def ZI(b:Bool)(h:az)(I l:ah)(k:Nat):Prop:=match b with|true=>h.IsTupleIter I l k|false=>h.IsListIter I l k
noncomputable def ZS(b:Bool)(h:az)(l:ah)(xs:Array aa):Prop:=match b with|true=>h.IsTuple l xs|false=>h.IsList l xs
noncomputable def AG(b:Bool):String:=match b with|true=>"tuple_iterator" |false=>"list_iterator"
noncomputable def EK(b:Bool)(l:ah):Obj:={cls:=.type (AG b),data:=.fields #[.ref l,.int 0 0]}
theorem ZI.ex{b:Bool}{h h':az}{I l c:ah}{k:Nat}(x:ZI b h I l k)(s:Heap.ExtBut c h h')(n:I≠c):ZI b h' I l k:=by cases b;exact Heap.IsListIter.extBut x s n;exact Heap.IsTupleIter.extBut x s n
theorem ZS.ex{b:Bool}{h h':az}{l c:ah}{xs:Array aa}(x:ZS b h l xs)(s:Heap.ExtBut c h h')(n:l≠c):ZS b h' l xs:=by cases b;exact Heap.IsList.extBut x s n;exact Heap.IsTuple.extBut x s n
theorem ZI.mv{b:Bool}{h h':az}{I l:ah}{k:Nat}(x:ZI b h I l k)(e:∀o,h.get? I=aB o->h'.get? I=aB o):ZI b h' I l k:=by cases b;exact Heap.IsListIter.at x e;exact Heap.IsTupleIter.at x e
theorem ZI.ob{b:Bool}{h:az}{I l:ah}{k:Nat}(x:ZI b h I l k):∃o,h.get? I=aB o/\∀v,o.data≠.cell v:=by cases b;obtain⟨o,h1,h2,h3⟩:=x;exact⟨o,h1,λv z=>by rw[h3]at z;cases z⟩;obtain⟨o,h1,h2,h3⟩:=x;exact⟨o,h1,λv z=>by rw[h3]at z;cases z⟩
theorem ZS.lt{b:Bool}{h:az}{l:ah}{xs:Array aa}(x:ZS b h l xs):l<h.objs.size:=by cases b<;> (obtain⟨o,h1,_⟩:=x;exact cP h1)
theorem ZS.push{b:Bool}{h:az}{l:ah}{xs:Array aa}(x:ZS b h l xs)(o:Obj):ZS b (h.push o) l xs:=by cases b;exact Heap.IsList.push x o;exact Heap.IsTuple.push x o
section
variable{prog:ai}{w:aj}{A:ak}{E:aa->af->Prop}{s:af}
theorem HP{b:Bool}{I l:ah}{k:Nat}{xs:Array aa}{y:aa}{Q:aa->af->Prop}(hi:ZI b s.heap I l k)(hl:ZS b s.heap l xs)(hy:xs[k]?=aB y)
 (q:∀g,ZI b g I l (k+1)->Heap.SameBut I s.heap g->Q y {s with heap:=g}):wpAny (model prog w) A (Builtin.SmallTypes.nextOf (.ref I)) Q E s:=by
 cases b;exact wpAny_nextOf_list_item hi hl hy q;exact MN hi hl hy q
theorem z_end{b:Bool}{I l:ah}{k:Nat}{xs:Array aa}{Q:aa->af->Prop}(hA:A.handled=aC)(hi:ZI b s.heap I l k)(hl:ZS b s.heap l xs)(hy:xs[k]?=aC)
 (q:∀g e,Heap.ExtBut I s.heap g->(∃o,g.get? e=aB o/\o.cls=.type "StopIteration")->E (.ref e) {s with heap:=g}):wpAny (model prog w) A (Builtin.SmallTypes.nextOf (.ref I)) Q E s:=by
 cases b;exact wpAny_nextOf_list_end hA hi hl hy q;exact HK hA hi hl hy q
structure ZA(z TI TO i1 i2 l1 l2:ah):Prop where
 a1:TI≠z/\TO≠z/\i1≠z/\i2≠z
 a2:TI≠TO/\TI≠i1/\TI≠i2/\TO≠i1/\TO≠i2/\i1≠i2
 a3:l1≠z/\l1≠TO/\l1≠i1/\l1≠i2
 a4:l2≠z/\l2≠TO/\l2≠i1/\l2≠i2
theorem UX{n l1 l2:Nat}(h1:l1<n)(h2:l2<n):ZA (n+4) (n+2) (n+3) n (n+1) l1 l2:=by have e:∀{a b:Nat},(a<b\/b<a)->a≠b:=λh=>h.elim fB mj;refine⟨⟨?_,?_,?_,?_⟩,⟨?_,?_,?_,?_,?_,?_⟩,⟨?_,?_,?_,?_⟩,?_,?_,?_,?_⟩<;>exact e (by lia)
theorem UY{b c:Bool}{z TI TO i1 i2 l1 l2:ah}{k:Nat}{xs ys:Array aa}{x y p q:aa}{Q:aa->af->Prop}(D:ZA z TI TO i1 i2 l1 l2)
 (hz:IsZip s.heap z TI TO .none) (hTI:IsPair s.heap TI (.ref i1) (.ref i2)) (hTO:IsPair s.heap TO p q)
 (h1:ZI b s.heap i1 l1 k) (h2:ZI c s.heap i2 l2 k) (hl1:ZS b s.heap l1 xs) (hl2:ZS c s.heap l2 ys) (hx:xs[k]?=aB x) (hy:ys[k]?=aB y)
 (hQ:∀h',IsZip h' z TI TO (rawInt s.heap.objs.size)->IsPair h' TO x y->ZI b h' i1 l1 (k+1)->ZI c h' i2 l2 (k+1)->IsPair h' s.heap.objs.size x y->h'.objs.size=s.heap.objs.size+1->
   (∀c o,c≠z->c≠TO->c≠i1->c≠i2->s.heap.get? c=aB o->h'.get? c=aB o)->Q (.ref s.heap.objs.size) {s with heap:=h'}) :
 wpAny (model prog w) A (Builtin.«zip.__next__» ⟨[.ref z],[]⟩) (λfin s'=>∃v,fin=.done (.ret v)/\Q v s') E s:=by
 obtain⟨⟨d1,d2,d3,d4⟩,⟨d5,d6,d7,d8,d9,AH⟩,⟨EL,UZ,U0,U1⟩,HQ,HR,HS,U3⟩:=D;show wpAny _ _ (field (.ref z) 2 >>= _) _ _ _;refine aJ (jf hz rfl (x:=.bool false) rfl ?_);show wpAny _ _ (field (.ref z) 3 >>= _) _ _ _;refine aJ (jf hz rfl (x:=.ref TI) rfl (aJ (pS hTI rfl ?_)));show wpAny _ _ (Builtin.SmallTypes.ownedTupleIsFree (.ref z) >>= _) _ _ _;refine aJ ?_;unfold Builtin.SmallTypes.ownedTupleIsFree;refine aJ (jf hz rfl (x:=.none) rfl (bg ?_));simp only[b9];refine aJ (u7 (aJ (jf hz rfl (x:=.ref TO) rfl (aJ (xG hz (by simp) λg1 z1 s1=>?_)))))
 replace z1:IsZip g1 z TI TO .ellipsis:=z1;refine aJ ?_;simp only[List.zipIdx_cons,List.zipIdx_nil,xP,vg];refine aJ (aJ (Du ?_));show wpAny _ _ (Builtin.SmallTypes.nextOf (.ref i1) >>= _) _ _ _;refine aJ (HP (h1.ex s1.extBut d3) (hl1.ex s1.extBut EL) hx λg2 y1 s2=>bg ?_);have t2:IsPair g2 TO p q:=s2.extBut _ _ d8 (s1.extBut _ _ d2 hTO);refine aJ (pS t2 rfl (aJ (wpAny_updateSeq_pair t2 λg3 t3 s3=>?_)))
 replace t3:IsPair g3 TO x q:=t3;refine aJ (Dz (bg (aJ (aJ (Du ?_)))));show wpAny _ _ (Builtin.SmallTypes.nextOf (.ref i2) >>= _) _ _ _;refine aJ (HP (((h2.ex s1.extBut d4).ex s2.extBut (gf AH)).ex s3.extBut (gf d9)) (((hl2.ex s1.extBut HQ).ex s2.extBut HS).ex s3.extBut HR) hy λg4 y2 s4=>bg ?_);have t4:IsPair g4 TO x q:=s4.extBut _ _ d9 t3;refine aJ (pS t4 rfl (aJ (wpAny_updateSeq_pair t4 λg5 t5 s5=>?_)))
 replace t5:IsPair g5 TO x y:=t5;refine aJ (Dz (bg (bg (aJ (pS t5 rfl (aJ (wpAny_newTuple ?_)))))));have hsz:g5.objs.size=s.heap.objs.size:=by rw[s5.1,s4.1,s3.1,s2.1,s1.1]
 have z5:IsZip g5 z TI TO .ellipsis:=s5.extBut _ _ (gf d2) (s4.extBut _ _ (gf d4) (s3.extBut _ _ (gf d2) (s2.extBut _ _ (gf d3) z1)));have k5:∀c o,c≠z->c≠TO->c≠i1->c≠i2->s.heap.get? c=aB o->g5.get? c=aB o:=λc o c1 c2 c3 c4 e=>s5.extBut _ _ c2 (s4.extBut _ _ c4 (s3.extBut _ _ c2 (s2.extBut _ _ c3 (s1.extBut _ _ c1 e))));have U4:ZI b g5 i1 l1 (k+1):=((y1.ex s3.extBut (gf d8)).ex s4.extBut AH).ex s5.extBut (gf d8);have U5:ZI c g5 i2 l2 (k+1):=y2.ex s5.extBut (gf d9);have EM:z<g5.objs.size:=cP z5;show wpAny _ _ (Builtin.SmallTypes.ownedTupleHandOut (.ref z) (.ref g5.objs.size) >>= _) _ _ _;refine aJ ?_;unfold Builtin.SmallTypes.ownedTupleHandOut;have z6:IsZip (g5.push {cls:=.type "tuple",data:=.seq #[x,y]}) z TI TO .ellipsis:=dH _ z5;refine aJ (xG z6 (by simp) λg7 z7 s7=>?_)
 replace z7:IsZip g7 z TI TO (rawInt g5.objs.size):=z7;refine xG z7 (by simp) λg8 z8 s8=>?_
 replace z8:IsZip g8 z TI TO (rawInt g5.objs.size):=z8;have up:∀c o,c≠z->g5.get? c=aB o->g8.get? c=aB o:=λc o c1 e=>s8.extBut _ _ c1 (s7.extBut _ _ c1 (dH _ e));have p8:IsPair g8 g5.objs.size x y:=s8.extBut _ _ (mj EM) (s7.extBut _ _ (mj EM) (gh _ rfl));have n8:g8.objs.size=g5.objs.size+1:=by rw[s8.1,s7.1,qH]
 rw[hsz]at z8 p8 n8;refine bg ⟨_,rfl,?_⟩;show Q (.ref g5.objs.size) _;rw[hsz];exact hQ g8 z8 (up _ _ d2 t5) (U4.mv λo e=>up _ o d3 e) (U5.mv λo e=>up _ o d4 e) p8 n8 λc o c1 c2 c3 c4 e=>up c o c1 (k5 c o c1 c2 c3 c4 e)
theorem U6{b c:Bool}{z TI TO i1 i2 l1 l2:ah}{k:Nat}{xs ys:Array aa}{p q:aa}{Q:Fin->af->Prop}(hA:A.handled=aC)(D:ZA z TI TO i1 i2 l1 l2)
 (hz:IsZip s.heap z TI TO .none) (hTI:IsPair s.heap TI (.ref i1) (.ref i2)) (hTO:IsPair s.heap TO p q)
 (h1:ZI b s.heap i1 l1 k) (h2:ZI c s.heap i2 l2 k) (hl1:ZS b s.heap l1 xs) (hl2:ZS c s.heap l2 ys) (he:xs[k]?=aC\/ys[k]?=aC)
 (hE:∀h' e,(∀c o,c≠z->c≠TO->c≠i1->c≠i2->s.heap.get? c=aB o->h'.get? c=aB o)->(∃o,h'.get? e=aB o/\o.cls=.type "StopIteration")->E (.ref e) {s with heap:=h'}) :
 wpAny (model prog w) A (Builtin.«zip.__next__» ⟨[.ref z],[]⟩) Q E s:=by
 obtain⟨⟨d1,d2,d3,d4⟩,⟨d5,d6,d7,d8,d9,AH⟩,⟨EL,UZ,U0,U1⟩,HQ,HR,HS,U3⟩:=D;show wpAny _ _ (field (.ref z) 2 >>= _) _ _ _;refine aJ (jf hz rfl (x:=.bool false) rfl ?_);show wpAny _ _ (field (.ref z) 3 >>= _) _ _ _;refine aJ (jf hz rfl (x:=.ref TI) rfl (aJ (pS hTI rfl ?_)));show wpAny _ _ (Builtin.SmallTypes.ownedTupleIsFree (.ref z) >>= _) _ _ _;refine aJ ?_;unfold Builtin.SmallTypes.ownedTupleIsFree;refine aJ (jf hz rfl (x:=.none) rfl (bg ?_));simp only[b9];refine aJ (u7 (aJ (jf hz rfl (x:=.ref TO) rfl (aJ (xG hz (by simp) λg1 z1 s1=>?_)))))
 replace z1:IsZip g1 z TI TO .ellipsis:=z1;refine aJ ?_;simp only[List.zipIdx_cons,List.zipIdx_nil,xP,vg];refine aJ (aJ (Du ?_));show wpAny _ _ (Builtin.SmallTypes.nextOf (.ref i1) >>= _) _ _ _;cases hx:xs[k]? with
 |none=>
  refine aJ (z_end hA (h1.ex s1.extBut d3) (hl1.ex s1.extBut EL) hx λg2 e s2 hs=>?_);obtain⟨oe,vN,hce⟩:=hs;have z2:IsZip g2 z TI TO .ellipsis:=s2 _ _ (gf d3) z1;have HU:e≠z:=λx=>by subst x;rw[z2]at vN;cases vN;simp at hce
  exact xG z2 (by simp) λg3 _ s3=>hE g3 e (λc o c1 _ c3 _ x=>s3.extBut _ _ c1 (s2 _ _ c3 (s1.extBut _ _ c1 x))) ⟨oe,s3.extBut _ _ HU vN,hce⟩
 |some x=>
  have hy:ys[k]?=aC:=by rcases he with h|h;rw[hx]at h;cases h;exact h
  refine aJ (HP (h1.ex s1.extBut d3) (hl1.ex s1.extBut EL) hx λg2 y1 s2=>bg ?_);have t2:IsPair g2 TO p q:=s2.extBut _ _ d8 (s1.extBut _ _ d2 hTO);refine aJ (pS t2 rfl (aJ (wpAny_updateSeq_pair t2 λg3 t3 s3=>?_)));refine aJ (Dz (bg (aJ (aJ (Du ?_)))));show wpAny _ _ (Builtin.SmallTypes.nextOf (.ref i2) >>= _) _ _ _;refine aJ (z_end hA (((h2.ex s1.extBut d4).ex s2.extBut (gf AH)).ex s3.extBut (gf d9)) (((hl2.ex s1.extBut HQ).ex s2.extBut HS).ex s3.extBut HR) hy λg4 e s4 hs=>?_);obtain⟨oe,vN,hce⟩:=hs;have z4:IsZip g4 z TI TO .ellipsis:=s4 _ _ (gf d4) (s3.extBut _ _ (gf d2) (s2.extBut _ _ (gf d3) z1));have HU:e≠z:=λx=>by subst x;rw[z4]at vN;cases vN;simp at hce
  exact xG z4 (by simp) λg5 _ s5=>hE g5 e (λc o c1 c2 c3 c4 x=>s5.extBut _ _ c1 (s4 _ _ c4 (s3.extBut _ _ c2 (s2.extBut _ _ c3 (s1.extBut _ _ c1 x))))) ⟨oe,s5.extBut _ _ HU vN,hce⟩
theorem U7{b c:Bool}{z TI TO i1 i2 l1 l2:ah}{k:Nat}{xs ys:Array aa}{x y p q:aa}{Q:Option aa->af->Prop}(D:ZA z TI TO i1 i2 l1 l2)
 (hz:IsZip s.heap z TI TO .none) (hTI:IsPair s.heap TI (.ref i1) (.ref i2)) (hTO:IsPair s.heap TO p q)
 (h1:ZI b s.heap i1 l1 k) (h2:ZI c s.heap i2 l2 k) (hl1:ZS b s.heap l1 xs) (hl2:ZS c s.heap l2 ys) (hx:xs[k]?=aB x) (hy:ys[k]?=aB y)
 (hQ:∀h',IsZip h' z TI TO (rawInt s.heap.objs.size)->IsPair h' TO x y->ZI b h' i1 l1 (k+1)->ZI c h' i2 l2 (k+1)->IsPair h' s.heap.objs.size x y->h'.objs.size=s.heap.objs.size+1->
   (∀c o,c≠z->c≠TO->c≠i1->c≠i2->s.heap.get? c=aB o->h'.get? c=aB o)->Q (aB (.ref s.heap.objs.size)) {s with heap:=h'}):wpAny (model prog w) A (pyNext (.ref z)) Q E s:=by
 have hT:s.TypeIs (.ref z) "zip":=⟨_,hz,rfl⟩
 unfold pyNext;exact aJ (xJ (pQ (name:=Str.ofString "__next__") hT Ec (kG Ec hT F.entry_zip_next (UY D hz hTI hTO h1 h2 hl1 hl2 hx hy λh' a1 a2 a3 a4 a5 a6 a7=>bg (hQ h' a1 a2 a3 a4 a5 a6 a7)) (F.args_zip_next_1 _))))
theorem U8{b c:Bool}{z TI TO i1 i2 l1 l2:ah}{k:Nat}{xs ys:Array aa}{p q:aa}{Q:Option aa->af->Prop}(hA:A.in1.handled=aC)(D:ZA z TI TO i1 i2 l1 l2)
 (hz:IsZip s.heap z TI TO .none) (hTI:IsPair s.heap TI (.ref i1) (.ref i2)) (hTO:IsPair s.heap TO p q)
 (h1:ZI b s.heap i1 l1 k) (h2:ZI c s.heap i2 l2 k) (hl1:ZS b s.heap l1 xs) (hl2:ZS c s.heap l2 ys) (he:xs[k]?=aC\/ys[k]?=aC)
 (hQ:∀h',(∀c o,c≠z->c≠TO->c≠i1->c≠i2->s.heap.get? c=aB o->h'.get? c=aB o)->Q aC {s with heap:=h'}):wpAny (model prog w) A (pyNext (.ref z)) Q E s:=by
 have hT:s.TypeIs (.ref z) "zip":=⟨_,hz,rfl⟩
 unfold pyNext;refine aJ (xJ (pQ (name:=Str.ofString "__next__") hT Ec (kG Ec hT F.entry_zip_next (U6 hA D hz hTI hTO h1 h2 hl1 hl2 he λh' e hk hs=>?_) (F.args_zip_next_1 _))));obtain⟨o,ho,hc⟩:=hs;exact aJ (uZ (T:="StopIteration") (b:=true) ⟨o,ho,hc⟩ isSubtype_stop (bg (hQ _ hk)))
noncomputable def EN(h:az)(b:Bool)(l1:ah):az:=h.push (EK b l1)
noncomputable def AI(h:az)(b c:Bool)(l1 l2:ah):az:=(EN h b l1).push (EK c l2)
noncomputable def AJ(h:az)(b c:Bool)(l1 l2:ah):az:=(AI h b c l1 l2).push {cls:=.type "tuple",data:=.seq #[.ref h.objs.size,.ref (EN h b l1).objs.size]}
noncomputable def AK(h:az)(b c:Bool)(l1 l2:ah):az:=(AJ h b c l1 l2).push {cls:=.type "tuple",data:=.seq #[.none,.none]}
noncomputable def tU(h:az)(b c:Bool)(l1 l2:ah):az:=(AK h b c l1 l2).push {cls:=.type "zip",data:=.fields #[.none,.bool false,.bool false,.ref (AI h b c l1 l2).objs.size,.ref (AJ h b c l1 l2).objs.size]}
theorem U9(b c:Bool)(l1 l2:ah)(xs ys:Array aa):Meets (Builtin.«zip.__new__» ⟨[.type "zip",.ref l1,.ref l2],[]⟩) (λ_ R s=>ZS b s.heap l1 xs/\ZS c s.heap l2 ys/\
 R (.ok (.ret (.ref (AK s.heap b c l1 l2).objs.size))) {s with heap:=tU s.heap b c l1 l2}):=
 .of_wp λprog w A R s h=>by
  obtain⟨hp,g,d,tk,os⟩:=s;obtain⟨m1,m2,h⟩:=h;have hsub:=sub_zip;have e1:ZS b (Shared.heap ⟨hp,g,d,tk,os⟩) l1 xs:=m1;have e2:ZS c (Shared.heap ⟨hp.push (EK b l1),g,d,tk,os⟩) l2 ys:=m2.push _;cases b<;>cases c;have q1:Heap.IsList (Shared.heap ⟨hp,g,d,tk,os⟩) l1 xs:=e1;have q2:Heap.IsList (Shared.heap ⟨hp.push {cls:=.type "list_iterator",data:=.fields #[.ref l1,.int 0 0]},g,d,tk,os⟩) l2 ys:=e2
  wp_walk using xH q1,xH q2;exact⟨_,rfl,h⟩;have q1:Heap.IsList (Shared.heap ⟨hp,g,d,tk,os⟩) l1 xs:=e1;have q2:Heap.IsTuple (Shared.heap ⟨hp.push {cls:=.type "list_iterator",data:=.fields #[.ref l1,.int 0 0]},g,d,tk,os⟩) l2 ys:=e2
  wp_walk using xH q1,uY q2;exact⟨_,rfl,h⟩;have q1:Heap.IsTuple (Shared.heap ⟨hp,g,d,tk,os⟩) l1 xs:=e1;have q2:Heap.IsList (Shared.heap ⟨hp.push {cls:=.type "tuple_iterator",data:=.fields #[.ref l1,.int 0 0]},g,d,tk,os⟩) l2 ys:=e2
  wp_walk using uY q1,xH q2;exact⟨_,rfl,h⟩;have q1:Heap.IsTuple (Shared.heap ⟨hp,g,d,tk,os⟩) l1 xs:=e1;have q2:Heap.IsTuple (Shared.heap ⟨hp.push {cls:=.type "tuple_iterator",data:=.fields #[.ref l1,.int 0 0]},g,d,tk,os⟩) l2 ys:=e2
  wp_walk using uY q1,uY q2;exact⟨_,rfl,h⟩
theorem MY{b:Bool}{h:az}{l:ah}{a:ah}(e:h.get? a=aB (EK b l)):ZI b h a l 0:=by cases b<;>exact⟨_,e,rfl,rfl⟩
theorem U'{b c:Bool}{l1 l2:ah}{xs ys:Array aa}{Q:aa->af->Prop}(m1:ZS b s.heap l1 xs)(m2:ZS c s.heap l2 ys)
 (h:∀h',IsZip h' (s.heap.objs.size+4) (s.heap.objs.size+2) (s.heap.objs.size+3) .none->IsPair h' (s.heap.objs.size+2) (.ref s.heap.objs.size) (.ref (s.heap.objs.size+1))->
   IsPair h' (s.heap.objs.size+3) .none .none->ZI b h' s.heap.objs.size l1 0->ZI c h' (s.heap.objs.size+1) l2 0->h'.objs.size=s.heap.objs.size+5->
   (∀c o,s.heap.get? c=aB o->h'.get? c=aB o)->Q (.ref (s.heap.objs.size+4)) {s with heap:=h'}):wpAny (model prog w) A (call (.type "zip") [.ref l1,.ref l2]) Q E s:=by
 refine Dw F.called_zip (by decide) (F.typeCall_zip_2 _ _) (F.newCall_zip_2 _ _) (λobj=>F.args_object_init_3 obj _ _) F.entry_zip_new (U9 b c l1 l2 xs ys) ⟨m1,m2,?_⟩;have n1:(EN s.heap b l1).objs.size=s.heap.objs.size+1:=qH ..;have n2:(AI s.heap b c l1 l2).objs.size=s.heap.objs.size+2:=by unfold AI;rw[qH,n1]
 have n3:(AJ s.heap b c l1 l2).objs.size=s.heap.objs.size+3:=by unfold AJ;rw[qH,n2]
 have n4:(AK s.heap b c l1 l2).objs.size=s.heap.objs.size+4:=by unfold AK;rw[qH,n3]
 have n5:(tU s.heap b c l1 l2).objs.size=s.heap.objs.size+5:=by unfold tU;rw[qH,n4]
 have g5:(tU s.heap b c l1 l2).get? (AK s.heap b c l1 l2).objs.size=aB _:=gh _ rfl;have g4:(tU s.heap b c l1 l2).get? (AJ s.heap b c l1 l2).objs.size=aB _:=dH _ (gh _ rfl);have g3:(tU s.heap b c l1 l2).get? (AI s.heap b c l1 l2).objs.size=aB _:=dH _ (dH _ (gh _ rfl));have g2:(tU s.heap b c l1 l2).get? (EN s.heap b l1).objs.size=aB _:=dH _ (dH _ (dH _ (gh _ rfl)));have g1:(tU s.heap b c l1 l2).get? s.heap.objs.size=aB _:=dH _ (dH _ (dH _ (dH _ (gh _ rfl))));show _/\_;rw[n2,n3,n4]at g5;rw[n1,n2]at g3;rw[n3]at g4;rw[n1]at g2;rw[n4];exact⟨⟨_,g5,rfl⟩,h _ g5 g3 g4 (MY g1) (MY g2) n5 λc o x=>dH _ (dH _ (dH _ (dH _ (dH _ x))))⟩
end
noncomputable def mH(b:Bool)(K:aO)(H:Hp)(a:ah)(xs:List V):Prop:=match b with|true=>bZ K H a xs|false=>cN K H a xs
theorem yq{b:Bool}{X:Cx}{pins:List (ah×Obj)}{σ:St}{H:Hp}{s:af}{a:ah}{xs:List V}(I:Inv X pins σ H s)(h:mH b X.K H a xs):∃its:List aa,Vals xs its/\ZS b s.heap a its.toArray/\xs.length<=sizeLine:=by cases b;obtain⟨its,r,p,z⟩:=I.list h;exact⟨its,r,p.isList,z⟩;exact I.tuple h
theorem MZ{b:Bool}{X:Cx}{pins:List (ah×Obj)}{σ:St}{H:Hp}{s:af}{a:ah}{xs ys:List V}(I:Inv X pins σ H s)(h:mH b X.K H a xs)(h':mH b X.K H a ys):xs=ys:=by cases b;exact I.jQ h h';exact I.fC h h'
noncomputable def vO(K:aO)(b c:Bool)(a1 a2:ah):It:=
 ⟨λi H=>∃xs ys x y,mH b K H a1 xs/\mH c K H a2 ys/\xs[i]?=aB x/\ys[i]?=aB y,
  λi H v H'=>∃T x y,v=.ref T/\H T=aC/\H'=upd H T (.tup [x,y])/\(∀xs,mH b K H a1 xs->xs[i]?=aB x)/\∀ys,mH c K H a2 ys->ys[i]?=aB y,
  λi H=>∃xs ys,mH b K H a1 xs/\mH c K H a2 ys/\(xs.length<=i\/ys.length<=i)⟩
theorem Inv.rj{X:Cx}{pins:List (ah×Obj)}{σ:St}{H:Hp}{s:af}{h2:az}{t':Nat}{fp:List ah}(I:Inv X pins σ H s)(hf:∀b∈fp,fT X pins H b)(kk:∀b o,b∉fp->s.heap.get? b=aB o->h2.get? b=aB o) :
 Inv X pins σ H {s with heap:=h2,toks:=t'}:=by
 have f0:=λb hb=>(hf b hb).1;have nE:∀b o,H b=aB o->b∉fp:=λb o q z=>by rw[f0 b z]at q;cases q
 refine I.step (g':=s.gens) (d':=s.drawn) (ch:=fp) (λb hb=>?_) (λb o _ _ hc e1 _=>kk b o hc e1) (λb o _ _ hc e1 _=>⟨o.slots,kk b o hc e1⟩) (λ_ _ _ _ n=>n) (λb o hc e1=>⟨o,kk b o hc e1⟩)
  (λ_ _ q=>q) (λ_ _ _ q=>q) (λb ps q=>⟨#[],by rw[q];simp⟩) (λm hm=>?_) (λb ob q=>?_) I.bare
 obtain⟨_,a1,a2,a3,a4,a5⟩:=hf b hb;exact⟨a3,a1,a4,a5⟩;obtain⟨o,es,ep,ho',r⟩:=hm;exact⟨o,es,ep,kk _ o (λz=>(hf _ z).2.1 rfl) ho',r⟩;refine(I.hok b ob q).stay (λc v hc z=>kk c v ?_ z) (λ_ z=>z) λ_ _ z=>z;rcases hc with rfl|hc;exact nE c ob q;exact nE c _ hc
theorem Inv.rm{X:Cx}{pins:List (ah×Obj)}{σ:St}{H:Hp}{s:af}{h2:az}{fp:List ah}{xs:List V}{us:List aa}(I:Inv X pins σ H s)(hf:∀b∈fp,fT X pins H b)(kk:∀b o,b∉fp->s.heap.get? b=aB o->h2.get? b=aB o)
 (hT:h2.get? s.heap.objs.size=aB {cls:=.type "tuple",data:=.seq us.toArray}) (hv:Vals xs us) (hz:xs.length<=sizeLine):Inv X pins σ (upd H s.heap.objs.size (.tup xs)) {s with heap:=h2}:=by
 have lE:H s.heap.objs.size=aC:=I.hok.fresh (bq _);have f0:=λb hb=>(hf b hb).1;have nE:∀b o,H b=aB o->b∉fp:=λb o q z=>by rw[f0 b z]at q;cases q
 refine I.step (g':=s.gens) (d':=s.drawn) (ch:=fp) (λb hb=>?_) (λb o _ _ hc e1 _=>kk b o hc e1) (λb o _ _ hc e1 _=>⟨o.slots,kk b o hc e1⟩) (λb o hc e1 n=>by rw[bQ (fB (cP e1))];exact n) (λb o hc e1=>⟨o,kk b o hc e1⟩)
  (λb ys q=>by rw[bQ (gj q lE)];exact q) (λb o u q=>by rw[bQ (gj q lE)];exact q) (λb ps q=>⟨#[],by rw[bQ (gj q lE),q];simp⟩) (λm hm=>?_) (λb ob q=>?_) I.bare
 obtain⟨_,a1,a2,a3,a4,a5⟩:=hf b hb;exact⟨a3,a1,a4,a5⟩;obtain⟨o,es,ep,ho',r⟩:=hm;exact⟨o,es,ep,kk _ o (λz=>(hf _ z).2.1 rfl) ho',r⟩;by_cases hb:b=s.heap.objs.size;subst hb;rw[gi]at q;cases q;exact⟨hz,us,hv,⟨_,hT,rfl,⟨_,rfl⟩,rfl⟩⟩;rw[bQ hb]at q;refine(I.hok b ob q).stay (λc v hc z=>kk c v ?_ z) (λc z=>by rw[bQ (gj z lE)];exact z) λc ys z=>by rw[bQ (gj z lE)];exact z
 rcases hc with rfl|hc;exact nE c ob q;exact nE c _ hc
theorem Va{P:ai}{w:aj}{K:aO}{elts:List ao}{kx:Nat}{tp:Pos}{b c:Bool}(a1 a2 z TI TO i1 i2:ah)(D:ZA z TI TO i1 i2 a1 a2) :
 Turn P w K (.Tuple elts kx tp) (vO K b c a1 a2) [z,TI,TO,i1,i2] z (λi h=>IsZip h z TI TO .none/\IsPair h TI (.ref i1) (.ref i2)/\(∃p q,IsPair h TO p q)/\ZI b h i1 a1 i/\ZI c h i2 a2 i)where
 mem:=by simp
 obj:=λi h st d hd=>by
  obtain⟨hz,hTI,⟨p,q,hTO⟩,h1,h2⟩:=st;simp only[eV,nG,ny]at hd;rcases hd with rfl|rfl|rfl|rfl|rfl;exact⟨_,hz,λv z=>by
   have z':Data.fields _=Data.cell v:=z;cases z'⟩
  exact⟨_,hTI,λv z=>by
   have z':Data.seq _ _=Data.cell v:=z;cases z'⟩
  exact⟨_,hTO,λv z=>by
   have z':Data.seq _ _=Data.cell v:=z;cases z'⟩
  exact h1.ob;exact h2.ob
 keep:=λi h h' st k=>by
  obtain⟨hz,hTI,⟨p,q,hTO⟩,h1,h2⟩:=st;exact⟨k z (by simp) _ hz,k TI (by simp) _ hTI,⟨p,q,k TO (by simp) _ hTO⟩,h1.mv λo e=>k i1 (by simp) o e,h2.mv λo e=>k i2 (by simp) o e⟩
 item:=by
  intro X hP hw hK hc i pins s σ H E I hf st hg;subst hP hw hK;obtain⟨xs,ys,x,y,q1,q2,hx,hy⟩:=hg;obtain⟨hz,hTI,⟨p,q,hTO⟩,h1,h2⟩:=st;obtain⟨its,rv,m1,_⟩:=yq I q1;obtain⟨M1,rw',m2,_⟩:=yq I q2;obtain⟨u,hu,ru⟩:=rv.get hx;obtain⟨v,hv,Vb⟩:=rw'.get hy;refine U7 D hz hTI hTO h1 h2 m1 m2 (x:=u) (y:=v) (by simpa using hu) (by simpa using hv) λg b1 b2 b3 b4 b5 b6 b7=>⟨_,rfl,wpAny_letOwnedTupleGo_zip b1 λg2 c1 c2=>?_⟩
  obtain⟨⟨d1,d2,d3,d4⟩,⟨d5,d6,d7,d8,d9,AH⟩,_,_⟩:=D;have c2:Heap.SameBut z g g2:=c2;have EM:s.heap.objs.size≠z:=mj (cP hz);have kk:∀d o,d∉[z,TI,TO,i1,i2]->s.heap.get? d=aB o->g2.get? d=aB o:=λd o hd e=>(c2.2 d λx=>hd (by simp[x])).trans (b7 d o (λx=>hd (by simp[x])) (λx=>hd (by simp[x])) (λx=>hd (by simp[x])) (λx=>hd (by simp[x])) e);have hT:g2.get? s.heap.objs.size=aB {cls:=.type "tuple",data:=.seq [u,v].toArray}:=(c2.2 _ EM).trans b5;have I2:=Inv.rm (xs:=[x,y]) I hf kk hT (.cons ru (.cons Vb .nil)) (by show 2<=sizeLine;decide);have lE:H s.heap.objs.size=aC:=I.hok.fresh (bq _);refine⟨.ref s.heap.objs.size,_,I2,rfl,⟨_,x,y,rfl,lE,rfl,λzs hzs=>by rw[MZ I hzs q1];exact hx,λzs hzs=>by rw[MZ I hzs q2];exact hy⟩,
   ⟨c1,(c2.2 TI d1).trans (b7 TI _ d1 d5 d6 d7 hTI),⟨u,v,(c2.2 TO d2).trans b2⟩,b3.mv λo e=>(c2.2 i1 d3).trans e,b4.mv λo e=>(c2.2 i2 d4).trans e⟩,λd hd=>?_⟩
  rw[bQ ?_];exact(hf d hd).1;intro e;obtain⟨o,ho⟩:∃o,s.heap.get? d=aB o:=by
   simp only[eV,nG,ny]at hd;rcases hd with rfl|rfl|rfl|rfl|rfl
   exact⟨_,hz⟩;exact⟨_,hTI⟩;exact⟨_,hTO⟩;exact let⟨o,h,_⟩:=h1.ob;⟨o,h⟩;exact let⟨o,h,_⟩:=h2.ob;⟨o,h⟩
  exact fB (cP ho) e
 done:=by intro X hP hw hK hc i pins s σ H E I hf st hg;subst hP hw hK;obtain⟨xs,ys,q1,q2,hl⟩:=hg;obtain⟨hz,hTI,⟨p,q,hTO⟩,h1,h2⟩:=st;obtain⟨its,rv,m1,_⟩:=yq I q1;obtain⟨M1,rw',m2,_⟩:=yq I q2;have l1:=rv.length;have l2:=rw'.length;exact U8 (I.ok.hd hc) D hz hTI hTO h1 h2 m1 m2 (hl.imp (λh=>by simp;lia) λh=>by simp;lia) λg hk=>⟨rfl,Inv.rj (t':=s.toks) I hf λd o hd e=>hk d o (λx=>hd (by simp[x])) (λx=>hd (by simp[x])) (λx=>hd (by simp[x])) (λx=>hd (by simp[x])) e⟩
 self:=λ_ _ _ _ _ st h=>wpAny_pyIter_zip st.1 h
theorem Vc{bs:List Bool}{its:List aa}(r:Vals (bs.map .bl) its)(i:Nat){v:aa}(h:its[i]?=aB v):∃b,bs[i]?=aB b/\v=.bool b:=by have hl:=r.length;rw[bF]at hl;obtain⟨hi,_⟩:=jK.mp h;have hb:bs[i]?=aB bs[i]:=iA (by lia);obtain⟨u,hu,ru⟩:=r.get (i:=i) (x:=.bl bs[i]) (by rw[iC,hb];rfl);rw[h]at hu;cases hu;exact⟨_,hb,ru⟩
theorem Vd(bs:List Bool):((List.range bs.length).all λi=>(bs[i]?).getD true)=bs.all id:=by rw[Bool.eq_iff_iff,lq,lq];refine⟨λh b hb=>?_,λh i hi=>?_⟩;obtain⟨i,hi,rfl⟩:=List.getElem_of_mem hb;have:=h i (tw.mpr hi);rw[iA hi]at this;exact this;have hi':=tw.mp hi;rw[iA hi'];exact h _ (nF hi')
section
variable{X:Cx}
theorem Ve(hc:X.calm):bK X (.builtin "all") (λxs H Q=>∃(p:ah) (bs:List Bool),xs=[.ref p]/\cN X.K H p (bs.map .bl)/\Q (.bl (bs.all id)) H):=by
 intro pins s σ H xs us Q I r h;obtain⟨p,bs,rfl,hq,q⟩:=h;obtain⟨u,rfl,ru⟩:=vals1 r;cases ru;obtain⟨its,rv,pl,hz⟩:=I.list hq;have hL:s.heap.IsList p its.toArray:=pl.isList;have hlt:p<s.heap.objs.size:=by obtain⟨_,e,_⟩:=hL;exact cP e
 have hd:X.A.in1.handled=aC:=I.ok.hd hc;have hlen:its.toArray.size=bs.length:=by rw[eY,<-rv.length,bF]
 refine call_all_walk (xH hL ⟨s.heap.objs.size,[s.heap.objs.size,p],[s.heap.objs.size],its.toArray.size,_,_,λi=>(bs[i]?).getD true,rfl,Walks.list (A:=X.A.in1) hd _ p (fB hlt) its.toArray,?_,?_,?_⟩);exact⟨⟨_,gh _ rfl,rfl,rfl⟩,hL.push _⟩;intro i v s' Q' E' hP hQ;obtain⟨b,e,rfl⟩:=Vc rv i (by simpa using hP);simp only[e,Option.getD_some]at hQ;exact pR hQ;intro h' tk hk;rw[hlen,Vd];refine⟨.bl (bs.all id),H,I.kept (t':=tk) λb o e=>hk b o (λhm=>?_) (dH _ e),rfl,q⟩;rw[i7.mp hm]at e;exact nj _ (cP e)
end
section
variable{X:Cx}
theorem Inv.freeze{pins:List (ah×Obj)}{σ:St}{H:Hp}{s:af}{a:ah}{kvs:List (Key×V)}(I:Inv X pins σ H s)(e:H a=aB (.dK kvs)):∃ob,Inv X pins σ (upd H a (.bN ob (.dK kvs))) s:=by
 obtain⟨z,y,vs,r,ob,es,ep,e1,c⟩:=(show aZ X.prog X.w H s.heap a (.dK kvs)from I.hok a _ e)
 refine⟨ob,?_⟩;exact I.write (x:=a) (e:=a) (o:=.bN ob (.dK kvs)) (h':=s.heap) (t':=s.toks) (by rw[e];trivial) (.inl rfl) (λ_ _ _ q=>q) ⟨ob,e1⟩ ⟨e1,z,y,vs,r,ob,es,ep,e1,c⟩
theorem tV{P:ai}{w:aj}{k:Key}{u:aa}(h:(iD P w).is k u):RelV (kV k) u:=by rcases nk h with⟨i,t,rfl,rfl⟩|⟨x,t,rfl,rfl⟩|⟨rfl,rfl⟩;exact⟨t,rfl⟩;exact⟨t,rfl⟩;rfl
noncomputable def AL(a:ah)(ob:Obj)(kvs:List (Key×V)):It where
 go:=λi H=>H a=aB (.bN ob (.dK kvs))/\i<kvs.length
 ym:=λi H x H'=>H'=H/\∃k v,kvs[i]?=aB (k,v)/\x=kV k
 stop:=λi H=>H a=aB (.bN ob (.dK kvs))/\i=kvs.length
theorem Vf{P:ai}{w:aj}{K:aO}{tg:ao}{a it:ah}{ob:Obj}{kvs:List (Key×V)}{es:Array DictEntry}{ep:Nat}(hd:ob.data=.dict es ep)(hne:a≠it):Turn P w K tg (AL a ob kvs) [it] it (λi h=>h.IsKeyIter it a i kvs.length ep)where
 mem:=by simp
 obj:=λi h st b hb=>by
  have e:b=it:=by simpa using hb
  subst e;obtain⟨o,e,c,d⟩:=st;exact⟨o,e,λv z=>by rw[d]at z;cases z⟩
 keep:=λi h h' st k=>by
  obtain⟨o,e,c,d⟩:=st;exact⟨o,k it (by simp) o e,c,d⟩
 item:=by
  intro X hP hw hK hc i pins s σ H E I hf st hg;subst hP hw hK;obtain⟨e0,hi⟩:=hg;obtain⟨e1,z,y,vs,r,o',es',yj,e2,c1,c2,c3,c4,c5⟩:=(show aZ X.prog X.w H s.heap a (.bN ob (.dK kvs))from I.hok a _ e0)
  rw[e1]at e2;cases e2;rw[hd]at c2;cases c2;obtain⟨f0,f1,f2,f3,f4,f5⟩:=hf it (by simp);have hl:=r.length;have W:=Walks.dictKeys (knd:=iD X.prog X.w) (I.ok.hd hc) it a hne vs ep;refine W.item i s _ _ (by lia) ⟨by rw[<-hl];exact st,ob,es,e1,c1,hd,c3,c4,c5⟩ λv h' tk hv st' kk=>?_;obtain⟨k,x,hk,his⟩:=hv;have I1:Inv X pins σ H {s with heap:=h',toks:=tk}:=I.turned (λb o hb e=>kk b o (by simpa using hb) e) f0 f1 f3 f4 f5;have st2:h'.IsKeyIter it a (i+1) kvs.length ep:=by rw[hl];exact st'.1
  obtain⟨o,e,c,d⟩:=id st2;have hk2:∃v0,kvs[i]?=aB (k,v0):=by
   have q:=r.keys;have q2:(kvs.map (·.1))[i]?=(vs.map (·.1))[i]?:=by rw[q]
   rw[iC,iC,hk]at q2;cases q3:kvs[i]? with|none=>rw[q3]at q2;cases q2|some p=>rw[q3]at q2;obtain⟨p1,p2⟩:=p;cases q2;exact⟨p2,rfl⟩
  obtain⟨v0,Vg⟩:=hk2;exact⟨v,rfl,jU (s:={s with heap:=h',toks:=tk}) e c d (by decide) ⟨kV k,H,I1,tV his,⟨rfl,k,v0,Vg,rfl⟩,st2,λb hb=>(hf b hb).1⟩⟩
 done:=by
  intro X hP hw hK hc i pins s σ H E I hf st hg;subst hP hw hK;obtain⟨e0,hi⟩:=hg;obtain⟨e1,z,y,vs,r,o',es',yj,e2,c1,c2,c3,c4,c5⟩:=(show aZ X.prog X.w H s.heap a (.bN ob (.dK kvs))from I.hok a _ e0)
  rw[e1]at e2;cases e2;rw[hd]at c2;cases c2;obtain⟨f0,f1,f2,f3,f4,f5⟩:=hf it (by simp);have hl:=r.length;have W:=Walks.dictKeys (knd:=iD X.prog X.w) (I.ok.hd hc) it a hne vs ep;refine W.done s _ _ ⟨by rw[<-hl];rw[hi]at st;exact st,ob,es,e1,c1,hd,c3,c4,c5⟩ λh' tk kk=>?_;exact⟨rfl,I.turned (λb o hb e=>kk b o (by simpa using hb) e) f0 f1 f3 f4 f5⟩
 self:=λ_ _ _ _ _ st h=>wpAny_pyIter_keyiter st h
end
noncomputable def HV:Option Int->aa->Bool|none,.none=>true|some i,v=>Value.isInt i v|none,_=>false
noncomputable def gR:Option Int->Int|none=>0xFCA86420|some i=>hashInt i
theorem rq:∀{k:Option Int} {v:aa},HV k v=true->(k=aC/\v=.none)\/∃i t,k=aB i/\v=.int i t
 |none,v,h=>by cases v<;>first|exact .inl ⟨rfl,rfl⟩|cases h
 |some i,v,h=>by
  obtain⟨t,e⟩:=Value.isInt_shape (k:=i) (v:=v) h;exact .inr ⟨i,t,rfl,e⟩
noncomputable def lG(prog:ai)(w:aj):KeyKind prog w (Option Int)where
 is:=HV
 hash:=gR
 inj:=λv a b ha hb=>by
  rcases rq ha with⟨rfl,rfl⟩|⟨i,t,rfl,rfl⟩
  .rcases rq hb with⟨rfl,_⟩|⟨j,u,rfl,e⟩
   .rfl
   .cases e
  .rcases rq hb with⟨rfl,e⟩|⟨j,u,rfl,e⟩
   .cases e
   .cases e;rfl
 byValue:=λk v h=>by
  rcases rq h with⟨rfl,rfl⟩|⟨i,t,rfl,rfl⟩<;>rfl
 pyHash:=λhv h=>by
  rcases rq hv with⟨rfl,rfl⟩|⟨i,t,rfl,rfl⟩
  .exact LO h
  .exact wpAny_pyHash_int h
 eqBool:=λ{A E s a b u v Q} hu hv h=>by
  rcases rq hu with⟨rfl,rfl⟩|⟨i,t,rfl,rfl⟩
  .rcases rq hv with⟨rfl,rfl⟩|⟨j,u,rfl,rfl⟩
   .exact SeqAt.EqAt.same (A:=A) (s:=s) .none prog w E Q (by simpa using h)
   .exact SeqAt.EqAt.none_int (A:=A) (s:=s) j u prog w E Q (by simpa using h)
  .rcases rq hv with⟨rfl,rfl⟩|⟨j,u,rfl,rfl⟩
   .exact SeqAt.EqAt.int_none (A:=A) (s:=s) i t prog w E Q (by simpa using h)
   .refine Dp ?_
    by_cases e:i=j
    .subst e;simpa using h
    .have e':(i==j)=false:=by simpa using e
     rw[e'];simpa[e]using h
 «strs»:=λk x t v h=>by
  rcases rq h with⟨_,e⟩|⟨i,t,_,e⟩<;>cases e
noncomputable abbrev DK:=List Int×Option Int
section
variable(prog:ai)(w:aj)
noncomputable def fH(h:az)(k:DK)(a:ah):Prop:=∃o n b v,h.get? a=aB o/\o.cls=.type "tuple"/\o.data=.seq #[.ref b,v] n/\IsTupleKey (intKind prog w) h k.1 b/\HV k.2 v=true
noncomputable def HW(k:DK):Int:=reduceHash (Builtin.Tuple.tupleHashOf [tupleKeyHash (intKind prog w) k.1,gR k.2])
variable{prog w}
theorem fH.typeIs{s:af}{k:DK}{a:ah}(x:fH prog w s.heap k a):s.TypeIs (.ref a) "tuple":=let⟨o,_,_,_,ho,hc,_⟩:=x;⟨o,ho,hc⟩
theorem fH.inj{h:az}{a:ah}{x y:DK}(hx:fH prog w h x a)(hy:fH prog w h y a):x=y:=by obtain⟨o,n,b,v,ho,_,hd,hi,hv⟩:=hx;obtain⟨o',n',b',v',ho',_,hd',hi',hv'⟩:=hy;obtain rfl:o=o':=jN (ho.symm.trans ho');rw[hd]at hd';injection hd' with h1 _;have h2:=ku Array.toList h1;simp only[Eg,and_true,Value.ref.injEq]at h2;obtain⟨rfl,rfl⟩:=h2;exact Prod.ext (hi.inj hi') ((lG prog w).inj _ _ _ hv hv')
theorem fH.keeps{h h':az}{k:DK}{a d:ah}{o:Obj}{es ep}(x:fH prog w h k a)(ho:h.get? d=aB o)(hd:o.data=.dict es ep)(hs:Heap.SameBut d h h'):fH prog w h' k a:=by
 obtain⟨o',n,b,v,ho',hc,hd',hi,hv⟩:=x;have hne:a≠d:=by rintro rfl;obtain rfl:o'=o:=jN (ho'.symm.trans ho);rw[hd]at hd';exact nomatch hd'
 exact⟨o',n,b,v,(hs.2 a hne).trans ho',hc,hd',hi.keeps ho hd hs,hv⟩
variable{A:ak}{E:aa->af->Prop}{s:af}
theorem Vh{k:DK}{a:ah}{Q:Int->af->Prop}(hu:A.units+1<cLine)(hk:fH prog w s.heap k a)(h:Q (HW prog w k) {s with toks:=s.toks+ (k.1.length+3)}) :
 wpAny (model prog w) A (pyHash (.ref a)) Q E s:=by
 have hT:=hk.typeIs;obtain⟨o,n,b,v,ho,_,hd,hi,hv⟩:=hk;unfold pyHash;refine aJ (wpAny_cRoomFor_or (.inr (by lia)) ?_);refine aJ (vcs hT Eb.lookup ?_);show wpAny _ _ (if(aB (Value.builtin "tuple.__hash__")==aB Value.none)=true then _ else _) Q E s;rw[if_neg (by rw[beq_builtin_none];exact nJ)];refine aJ (vcs hT Eb.lookup ?_);show wpAny _ _ (callSpecialIfBoundUnlessNone? (.ref a) "__hash__" _ >>= _) Q E s;refine aJ (wpAny_callSpecialIfBoundUnlessNone?_slot hT Eb (kG Eb hT F.entry_tuple_hash ?_ (F.args_tuple_hash_1 _)));show wpAny _ _ (Builtin.Tuple.tupleItemsOf (.ref a) >>= _) _ _ s;refine aJ (wpAny_tupleItemsOf ho hd ?_);refine aJ ?_;rw[<-Array.forIn_toList];refine Dq _
  (λrest (acc:Array Int) s'=>(rest=[.ref b,v]/\acc.toList=[]/\s'=s)\/(rest=[v]/\acc.toList=[tupleKeyHash (intKind prog w) k.1]/\s' ={s with toks:=s.toks+ (k.1.length+1)})\/(rest=[]/\acc.toList=[tupleKeyHash (intKind prog w) k.1,gR k.2]/\s' ={s with toks:=s.toks+ (k.1.length+1)+1}))
  _ ?_ ?_ _ _ (.inl ⟨rfl,rfl,rfl⟩)
 rintro x rest acc s' (⟨e,ha,rfl⟩|⟨e,ha,rfl⟩|⟨e,_⟩);cases e;refine aJ (wpAny_pyHash_tuple hu hi ?_);first
  |exact bg (.inr (.inl ⟨rfl,by simp[ha],rfl⟩))
  |exact aJ (bg (bg (.inr (.inl ⟨rfl,by simp[ha],rfl⟩))))
 cases e;refine aJ ((lG prog w).pyHash (k:=k.2) hv ?_);first
  |exact bg (.inr (.inr ⟨rfl,by simp[ha];rfl,rfl⟩))
  |exact aJ (bg (bg (.inr (.inr ⟨rfl,by simp[ha];rfl,rfl⟩))))
 cases e;rintro acc s' (⟨e,_⟩|⟨e,_⟩|⟨_,ha,rfl⟩);cases e;cases e;show wpAny _ _ (retInt (Builtin.Tuple.tupleHashOf acc.toList)) _ _ _;rw[ha];refine wpAny_ret_mkInt ?_;show wpAny _ _ (if(decide (-(2:Int) ^ 63<=Builtin.Tuple.tupleHashOf [tupleKeyHash (intKind prog w) k.1,gR k.2])&&decide (Builtin.Tuple.tupleHashOf [tupleKeyHash (intKind prog w) k.1,gR k.2]<2 ^ 63))=true then _ else _) Q E _;unfold HW reduceHash at h;by_cases hr:(decide (-(2:Int) ^ 63<=Builtin.Tuple.tupleHashOf [tupleKeyHash (intKind prog w) k.1,gR k.2])&&decide (Builtin.Tuple.tupleHashOf [tupleKeyHash (intKind prog w) k.1,gR k.2]<2 ^ 63))=true;rw[if_pos hr];rw[if_pos hr]at h;exact bg (by simpa[qz]using h);rw[if_neg hr];rw[if_neg hr]at h;exact aJ (u7 (bg (by simpa[qz]using h)))
theorem Vi{x y:DK}{a b:ah}{P:Fin->af->Prop}(hu:A.units<cLine)(hx:fH prog w s.heap x a)(hy:fH prog w s.heap y b)(h:P (.done (.ret (.bool (decide (x=y))))) s) :
 wpAny (model prog w) A (Builtin.«tuple.__eq__» ⟨[.ref a,.ref b],[]⟩) P E s:=by
 have hTb:=hy.typeIs;obtain⟨oa,na,a1,v1,hoa,_,hda,Vj,Vk⟩:=hx;obtain⟨ob,nb,b1,v2,hob,_,hdb,hib,Vl⟩:=hy;show wpAny _ _ (isInstance (.ref b) (.type "tuple") >>= _) _ _ s;refine aJ (uZ hTb isSubtype_tuple_tuple ?_);simp only[nK,eW,dF];refine aJ (wpAny_tupleItemsOf hoa hda ?_);refine aJ (wpAny_tupleItemsOf hob hdb ?_);refine aJ ?_;refine Dq _
  (λrest r s'=>r.1=aC/\s'=s/\((rest=[(Value.ref a1,Value.ref b1),(v1,v2)])\/(rest=[(v1,v2)]/\x.1=y.1)\/(rest=[]/\x=y)))
  _ ?_ ?_ _ _ ⟨rfl,rfl,.inl rfl⟩
 rintro⟨u,v⟩ rest r s' ⟨hr,rfl,e|⟨e,hxy⟩|⟨e,_⟩⟩;cases e;refine aJ (wpAny_eqBool_tuple hu Vj hib ?_);by_cases hk:x.1=y.1;rw[gg hk];simp only[nK,eW,dF];exact bg ⟨rfl,rfl,.inr (.inl ⟨(by first|rfl|trivial),hk⟩)⟩;rw[fE hk];simp only[zk,b9];have hf:decide (x=y)=false:=fE λz=>hk (by rw[z]);rw[hf]at h;exact aJ (bg (bg (bg h)));cases e;refine aJ ((lG prog w).eqBool (a:=x.2) (b:=y.2) Vk Vl ?_);by_cases hk:x.2=y.2;rw[gg hk];simp only[nK,eW,dF];exact bg ⟨rfl,rfl,.inr (.inr ⟨(by first|rfl|trivial),Prod.ext hxy hk⟩)⟩;rw[fE hk];simp only[zk,b9];have hf:decide (x=y)=false:=fE λz=>hk (by rw[z]);rw[hf]at h;exact aJ (bg (bg (bg h)));cases e;rintro⟨r1,r2⟩ s' ⟨hr,rfl,e|⟨e,_⟩|⟨_,e⟩⟩;cases e;cases e;simp only at hr;subst hr;refine bg ?_;rw[gg e]at h;exact h
theorem Vm{x y:DK}{a b:ah}{Q:Bool->af->Prop}(hu:A.units+1<cLine)(hx:fH prog w s.heap x a)(hy:fH prog w s.heap y b)(h:Q (decide (x=y)) s) :
 wpAny (model prog w) A (eqBool (.ref a) (.ref b)) Q E s:=by
 unfold eqBool
 try with_reducible refine nA ?_
 show wpAny _ _ (if(Value.ref a==Value.ref b)=true then _ else _) Q E s;by_cases hab:(Value.ref a==Value.ref b)=true;rw[if_pos hab];have e:a=b:=by have:=eq_of_beq hab;injection this
 subst e;obtain rfl:=hx.inj hy;exact aJ (u7 (bg (by simpa using h)));rw[if_neg hab];exact aJ (wpAny_richCompare_same_room (op:=.Eq) hx.typeIs hy.typeIs Ed
  (kG Ed hx.typeIs F.entry_tuple_eq (Vi hu hx hy ⟨_,rfl,(λe=>nomatch e),pR h⟩) (F.args_tuple_eq_2 _ _)) (by lia))
theorem Vn{n:Nat}{ks:List Int}{a:ah}{Q:Bool->af->Prop}(hk:IsTupleKey (intKind prog w) s.heap ks a)(h:Q true s):wpAny (model prog w) A (eqIsQuiet (n+1) (.ref a)) Q E s:=by have hT:=hk.typeIs;obtain⟨o,items,m,ho,_,hd,hi⟩:=hk;unfold eqIsQuiet;refine aJ (vcs hT Ed.lookup ?_);show wpAny _ _ (isInstance (.ref a) (.type "tuple") >>= _) _ _ s;refine aJ (uZ hT isSubtype_tuple_tuple ?_);simp only[nK,eW,dF];refine aJ (pS ho hd ?_);refine aJ ?_;show wpAny _ _ (forIn items _ _) _ _ s;rw[<-Array.forIn_toList];refine Dq _ (λrest r s'=>r.1=aC/\s'=s/\∀v∈rest,carriedByValue v=true) _ ?_ ?_ _ _ ⟨rfl,rfl,hi.byValue⟩;rintro v rest r s' ⟨hr,rfl,hall⟩;rw[eqIsQuiet_byValue _ (hall v eX)];refine aJ (bg ?_);simp only[nK,eW,dF];exact bg ⟨rfl,rfl,λu Vo=>hall u (eU _ Vo)⟩;rintro⟨r1,r2⟩ s' ⟨hr,rfl,_⟩;simp only at hr;subst hr;exact bg h
theorem Vp{k:DK}{a:ah}{Q:Bool->af->Prop}(hk:fH prog w s.heap k a)(h:Q true s):wpAny (model prog w) A (eqIsQuiet 8 (.ref a)) Q E s:=by have hT:=hk.typeIs;obtain⟨o,n,b,v,ho,_,hd,hi,hv⟩:=hk;unfold eqIsQuiet;refine aJ (vcs hT Ed.lookup ?_);show wpAny _ _ (isInstance (.ref a) (.type "tuple") >>= _) _ _ s;refine aJ (uZ hT isSubtype_tuple_tuple ?_);simp only[nK,eW,dF];refine aJ (pS ho hd ?_);refine aJ ?_;show wpAny _ _ (forIn #[.ref b,v] _ _) _ _ s;rw[<-Array.forIn_toList];refine Dq _ (λrest r s'=>r.1=aC/\s'=s/\(rest=[.ref b,v]\/rest=[v]\/rest=[])) _ ?_ ?_ _ _ ⟨rfl,rfl,.inl rfl⟩;rintro u rest r s' ⟨hr,rfl,e|e|e⟩;cases e;refine aJ (Vn hi ?_);simp only[nK,eW,dF];exact bg ⟨rfl,rfl,.inr (.inl (by first|rfl|trivial))⟩;cases e;rw[eqIsQuiet_byValue _ ((lG prog w).byValue _ _ hv)];refine aJ (bg ?_);simp only[nK,eW,dF];exact bg ⟨rfl,rfl,.inr (.inr (by first|rfl|trivial))⟩;cases e;rintro⟨r1,r2⟩ s' ⟨hr,rfl,_⟩;simp only at hr;subst hr;exact bg h
end
noncomputable def jk(prog:ai)(w:aj):HeapKind prog w DK where
 is:=fH prog w
 hash:=HW prog w
 draws:=λk=>k.1.length+3
 room:=λA=>A.units+1<cLine
 inj:=λhx hy=>hx.inj hy
 keeps:=λx ho hd hs=>x.keeps ho hd hs
 pyHash:=λhu hk h=>Vh hu hk h
 eqBool:=λhu hx hy h=>Vm hu hx hy h
 quiet:=λhk h=>Vp hk h
noncomputable def M3(k:DK):Int:=reduceHash (Builtin.Tuple.tupleHashOf [reduceHash (Builtin.Tuple.tupleHashOf (k.1.map hashInt)),gR k.2])
noncomputable def Vq:Option Int->V|none=>.aI|some i=>.int i
noncomputable abbrev DX:=List (DK×ah×V)
noncomputable abbrev AM(xs:DX)(us:List (DK×ah×aa)):Prop:=Paired (λ(p:DK×ah×V) (q:DK×ah×aa)=>p.1=q.1/\p.2.1=q.2.1/\RelV p.2.2 q.2.2) xs us
noncomputable def HX(xs:DX)(a:ah)(h:az):Prop:=xs.length<=sizeLine/\(a==sysModules)=false/\(xs.map (·.1)).Nodup/\∃us,AM xs us/\∃o es ep,h.get? a=aB o/\o.ExactDict/\o.data=.dict es ep/\es.toList=us.map λx=>⟨M3 x.1,.ref x.2.1,x.2.2⟩
noncomputable def mJ(xs:DX)(a:ah):HO:=.ext (HX xs a)
theorem zs2{P:ai}{w:aj}{H:Hp}{h:az}{a:ah}{xs:DX}(e:HX xs a h):aZ P w H h a (mJ xs a):=by refine⟨e,?_,?_⟩;obtain⟨_,_,_,us,_,o,_,_,h1,_⟩:=e;exact⟨o,h1⟩;rintro h1 h2 ⟨a1,a2,a3,us,a4,o,es,ep,b1,b2⟩ k;exact⟨a1,a2,a3,us,a4,o,es,ep,k o b1,b2⟩
theorem Vr{P:ai}{w:aj}{H:Hp}{h:az}{a:ah}{xs:DX}(ok:fN P w H h)(e:H a=aB (mJ xs a)):HX xs a h:=(ok a _ e).1
noncomputable def cV(K:aO)(H:Hp)(k:DK)(b:ah):Prop:=∃c,bZ K H b [.ref c,Vq k.2]/\bZ K H c (k.1.map .int)
noncomputable def DT(K:aO)(H:Hp)(a:ah)(xs:DX):Prop:=(H a=aB (mJ xs a)/\∀p∈xs,cV K H p.1 p.2.1)\/(xs=[]/\Rd H a (.dK []))
noncomputable def bL(xs:DX)(k:DK):Option (ah×V):=(xs.find? λx=>decide (x.1=k)).map (·.2)
noncomputable def iG(xs:DX)(k:DK)(b:ah)(v:V):DX:=if(bL xs k).isSome then xs.map (λx=>if x.1=k then(x.1,x.2.1,v)else x)else xs++[(k,b,v)]
theorem EO{xs:DX}{us:List (DK×ah×aa)}(r:AM xs us)(k:DK):(bL xs k=aC/\atKey us k=aC)\/∃p q,bL xs k=aB p/\atKey us k=aB q/\RelV p.2 q.2:=by
 induction r with
 |nil=>exact .inl ⟨rfl,rfl⟩
 | @cons p q ps qs h t ih=>
  obtain⟨h1,h2,h3⟩:=h;by_cases e:p.1=k;refine .inr ⟨p.2,q.2,?_,?_,h3⟩;simp[bL,kB,e];simp[atKey,kB,h1.symm.trans e];have e':¬q.1=k:=λz=>e (h1.trans z);have b1:bL (p::ps) k=bL ps k:=by simp[bL,kB,e]
  have b2:atKey (q::qs) k=atKey qs k:=by simp[atKey,kB,e']
  rw[b1,b2];exact ih
theorem Vs{xs:DX}{us:List (DK×ah×aa)}(r:AM xs us)(k:DK)(b:ah){v:V}{u:aa}(rv:RelV v u):AM (iG xs k b v) (storedH us k b u):=by
 unfold iG storedH;have e:(bL xs k).isSome=(atKey us k).isSome:=by rcases EO r k with⟨h1,h2⟩|⟨p,q,h1,h2,_⟩<;> (rw[h1,h2];rfl)
 rw[e];by_cases z:(atKey us k).isSome=true;rw[if_pos z,if_pos z];clear e z;induction r with
 |nil=>exact .nil
 | @cons p q ps qs h t ih=>
  rw[dz,dz];refine .cons ?_ ih;obtain⟨h1,h2,h3⟩:=h;unfold putAt;by_cases e:p.1=k;rw[if_pos e,if_pos (h1.symm.trans e)];exact⟨h1,h2,rv⟩;rw[if_neg e,if_neg (λz=>e (h1.trans z))];exact⟨h1,h2,h3⟩
 rw[if_neg z,if_neg z];exact Paired.snoc r ⟨rfl,rfl,rv⟩
theorem Vt(xs:DX)(k:DK)(b:ah)(v:V):(iG xs k b v).length<=xs.length+1:=by unfold iG;split;rw[bF];lia;rw[fS];exact bq _
section
variable{X:Cx}{pins:List (ah×Obj)}{σ:St}{H:Hp}{s:af}{a b:ah}{k:DK}{xs:DX}{v:V}{r:aa}{A:ak}{E:aa->af->Prop}
theorem M4:∀{ls:List Int} {us:List aa},Vals (ls.map .int) us->ItemsAre (intKind X.prog X.w) ls us
 |[],_,.nil=>.nil
 |x::ls,_,.cons h t=>by
  obtain⟨t',rfl⟩:=h;exact .cons (by show Value.isInt x (.int x t')=true;simp[Value.isInt]) (M4 t)
theorem cV.is(I:Inv X pins σ H s)(h:cV X.K H k b):fH X.prog X.w s.heap k b:=by
 obtain⟨c,h1,h2⟩:=h;obtain⟨its,r1,⟨o,e1,e2,n,e3⟩,_⟩:=I.tuple h1;obtain⟨its2,r2,⟨o2,f1,f2,n2,f3⟩,_⟩:=I.tuple h2;cases r1 with
 | @cons _ u0 _ us0 q1 q2=>
  cases q2 with
  | @cons _ u1 _ us1 q3 q4=>
   cases q4;have q1:u0=.ref c:=q1;subst q1;refine⟨o,n,c,u1,e1,e2,e3,⟨o2,its2.toArray,n2,f1,f2,f3,M4 r2⟩,?_⟩;cases z:k.2 with|none=>rw[z]at q3;cases q3;rfl|some i=>rw[z]at q3;obtain⟨t,rfl⟩:=q3;show Value.isInt i (.int i t)=true;simp[Value.isInt]
theorem DT.dict(I:Inv X pins σ H s)(h:DT X.K H a xs):xs.length<=sizeLine/\(a==sysModules)=false/\∃us,AM xs us/\s.heap.DictOfH (jk X.prog X.w) a us:=by
 rcases h with⟨e,hk⟩|⟨rfl,e⟩;obtain⟨a1,a2,a3,us,a4,o,es,ep,b1,b2,b3,b4⟩:=Vr I.hok e;refine⟨a1,a2,us,a4,o,es,ep,b1,b2,b3,b4,?_,?_⟩;intro x hx;have:∃p∈xs,p.1=x.1/\p.2.1=x.2.1:=by
  clear a1 a3 b4 hk e;induction a4 with
  |nil=>cases hx
  | @cons p q ps qs h t ih=>
   rcases eV.mp hx with rfl|hx;exact⟨p,eX,h.1,h.2.1⟩;obtain⟨p',h1,h2⟩:=ih hx;exact⟨p',eU _ h1,h2⟩
 obtain⟨p,hp,h1,h2⟩:=this;have:=cV.is I (hk p hp);rw[h1,h2]at this;exact this;have:us.map (·.1)=xs.map (·.1):=by
  clear a1 a3 b4 hk e;induction a4 with|nil=>rfl| @cons p q ps qs h t ih=>rw[dz,dz,ih,h.1]
 rw[this];exact a3;obtain⟨z,y,vs,r,o,es,ep,b1,b2,b3,b4,b5,b6⟩:=iF I.hok e;cases r;refine⟨gX _,y,[],.nil,o,es,ep,b1,b2,b3,?_,(λx hx=>nomatch hx),xQ⟩;generalize es.toList=l at b5 ⊢;cases b5;rfl
theorem Vu{Q:aa->af->Prop}{p:ah×V}(hu:A.units+2<cLine)(I:Inv X pins σ H s)(d:DT X.K H a xs)(kk:cV X.K H k b)(g:bL xs k=aB p)(h:∀w' s',Inv X pins σ H s'->RelV p.2 w'->Q w' s') :
 wpAny (model X.prog X.w) A (getItem (.ref a) (.ref b)) Q E s:=by
 obtain⟨_,_,us,r,dd⟩:=d.dict I;rcases EO r k with⟨h1,_⟩|⟨p',q,h1,h2,h3⟩;rw[g]at h1;cases h1;rw[g]at h1;cases h1;exact wpAny_getItem_heap (knd:=jk X.prog X.w) (by show A.in1.units+1<cLine;exact hu) (kk.is I) dd h2 (h _ _ (I.tok _) h3)
theorem AN{Q:aa->af->Prop}(hu:A.units+2<cLine)(I:Inv X pins σ H s)(d:DT X.K H a xs)(kk:cV X.K H k b)(h:∀s',Inv X pins σ H s'->Q (.bool (bL xs k).isSome) s') :
 wpAny (model X.prog X.w) A (compareOp .In (.ref b) (.ref a)) Q E s:=by
 obtain⟨_,y,us,r,dd⟩:=d.dict I;have e:(bL xs k).isSome=(atKey us k).isSome:=by rcases EO r k with⟨h1,h2⟩|⟨p,q,h1,h2,_⟩<;> (rw[h1,h2];rfl)
 refine wpAny_in_heap (knd:=jk X.prog X.w) (by show A.in1.units+1<cLine;exact hu) (kk.is I) y dd ?_;rw[<-e];exact h _ (I.tok _)
theorem Vv{Q:aa->af->Prop}(hu:A.units+2<cLine)(I:Inv X pins σ H s)(d:DT X.K H a xs)(kk:cV X.K H k b)(h:∀s',Inv X pins σ H s'->Q (.bool (!(bL xs k).isSome)) s') :
 wpAny (model X.prog X.w) A (compareOp .NotIn (.ref b) (.ref a)) Q E s:=by
 obtain⟨_,y,us,r,dd⟩:=d.dict I;have e:(bL xs k).isSome=(atKey us k).isSome:=by rcases EO r k with⟨h1,h2⟩|⟨p,q,h1,h2,_⟩<;> (rw[h1,h2];rfl)
 refine wpAny_notIn_heap (knd:=jk X.prog X.w) (by show A.in1.units+1<cLine;exact hu) (kk.is I) y dd ?_;rw[<-e];exact h _ (I.tok _)
theorem Vw{Q:Unit->af->Prop}(hu:A.units+2<cLine)(I:Inv X pins σ H s)(d:DT X.K H a xs)(mu:tK (H a))(kk:cV X.K H k b)(hz:xs.length<sizeLine)(rv:RelV v r)(h:∀s',Inv X pins σ (upd H a (mJ (iG xs k b v) a)) s'->Q () s') :
 wpAny (model X.prog X.w) A (setItem (.ref a) (.ref b) r) Q E s:=by
 obtain⟨_,y,us,rl,dd⟩:=d.dict I;refine wpAny_setItem_heap (knd:=jk X.prog X.w) (hsz:=by rw[<-vm rl];lia) (by show A.in1.units+1<cLine;exact hu) (kk.is I) dd λh' nV hs=>h _ ?_;obtain⟨q,es,ep,hq,h2,h3,h4,_,h5⟩:=nV;have pr:=Vs rl k b rv;refine AB I mu hs ⟨q,hq⟩ (zs2 ⟨?_,y,?_,_,pr,q,es,ep,hq,h2,h3,h4⟩);have:=Vt xs k b v;lia;have:(iG xs k b v).map (·.1)=(storedH us k b r).map (·.1):=by
  generalize iG xs k b v=ys at pr;generalize storedH us k b r=zs at pr;clear h4 h5;induction pr with|nil=>rfl| @cons p q ps qs h t ih=>rw[dz,dz,ih,h.1]
 rw[this];exact h5
end
end L2
namespace L2
open PySem PySem.Spec PyProof.Rows PySem.W
open AutoSeq1 (wpAny_loadPart')
noncomputable def DE(h:az)(d:ah)(es:Array DictEntry)(ep:Nat):Prop:=∃o,h.get? d=aB o/\o.ExactDict/\o.data=.dict es ep
theorem DE.ty{s:af}{d:ah}{es:Array DictEntry}{ep:Nat}(x:DE s.heap d es ep):s.TypeIs (.ref d) "dict":=let⟨o,a,b,_⟩:=x;⟨o,a,b.1⟩
theorem DE.at_{h h':az}{d:ah}{es:Array DictEntry}{ep:Nat}(x:DE h d es ep)(k:∀o,h.get? d=aB o->h'.get? d=aB o):DE h' d es ep:=let⟨o,a,b⟩:=x;⟨o,k o a,b⟩
theorem DE.lt{h:az}{d:ah}{es:Array DictEntry}{ep:Nat}(x:DE h d es ep):d<h.objs.size:=let⟨_,a,_⟩:=x;cP a
section
variable{prog:ai}{w:aj}{A:ak}{E:aa->af->Prop}{s:af}{d it:ah}{es:Array DictEntry}{ep i:Nat}
theorem Vx{Q:aa->af->Prop}(hd:(d==sysModules)=false)(hm:DE s.heap d es ep)(hf:(es.size:Int)<2 ^ 63)(h:∀t tk,Q (.int es.size t) {s with toks:=tk}) :
 wpAny (model prog w) A (call (.builtin "len") [.ref d]) Q E s:=by
 refine Calls.call_function_entry kind_len plain_len entry_len (args_len1 _) ?_;unfold Builtin.«len»;refine aJ (m:=oneArg "len" _) (bg ?_);have M:MeetsIn prog w (Builtin.«dict.__len__» ⟨[.ref d],[]⟩) (λ_ R s=>DE s.heap d es ep/\R (.ok (.ret (.int es.size s.toks))) {s with toks:=s.toks+1}):=
  .of_wp λA R s dU=>by
   obtain⟨⟨o,a,b,c⟩,h⟩:=dU;show wpAny _ _ (dictSize d >>= _) _ _ s;unfold dictSize;exact aJ (aJ (wpAny_dictEntries a c (bg (aJ (wpAny_pendingCount_other hd (wpAny_ret_mkInt h))))))
 refine aJ (m:=callSpecial? (.ref d) (Str.ofString "__len__")) (pQ (name:=Str.ofString "__len__") hm.ty F.slot_dict_len
  (call_meetsIn F.slot_dict_len hm.ty F.entry_dict_len (F.args_dict_len_1 _) M ⟨hm,?_⟩))
 refine aJ (nA (bg (aJ (Dz ?_))));show wpAny _ _ (if((es.size:Nat):Int)<0 then _ else _) _ _ _;rw[if_neg (by lia)];show wpAny _ _ (if((es.size:Nat):Int)>=2 ^ 63 then _ else _) _ _ _;rw[if_neg (by lia)];exact aJ (wpAny_mkInt (bg ⟨_,rfl,h _ _⟩))
theorem Vy{Q:aa->af->Prop}(hd:(d==sysModules)=false)(hm:DE s.heap d es ep)
 (hQ:Q (.ref s.heap.objs.size) {s with heap:=s.heap.push {cls:=.type "dict_keyiterator",data:=.fields #[.ref d,.int 0 0,.int es.size 0,.int ep 0]}}) :
 wpAny (model prog w) A (pyIter (.ref d)) Q E s:=by
 have hT:=hm.ty;obtain⟨o,a,b,c⟩:=hm;refine wpAny_pyIter_slot hT F.slot_dict_iter (kG F.slot_dict_iter hT F.entry_dict_iter ?_ (F.args_dict_iter_1 _));unfold Builtin.«dict.__iter__» Builtin.Dict.dictSlotNone;refine aJ (aJ (wpAny_notOrdered_dict hT (bg ?_)));show wpAny _ _ (Builtin.Dict.showsAll d >>= _) _ _ s;unfold Builtin.Dict.showsAll;rw[if_neg (by rw[hd];exact nJ)];refine aJ (bg (aJ (wpAny_dictEntries a c (aJ (wpAny_dictEpoch a c (aJ (k9 (bg
  ⟨_,rfl,"dict_keyiterator",_,⟨_,gh _ rfl,rfl⟩,F.slot_dict_keyiterator_next.lookup,?_⟩))))))))
 simpa[rawInt]using hQ
theorem M5{Q:Option aa->af->Prop}(hh:A.handled=aC)(hit:s.heap.IsKeyIter it d i es.size ep)(hm:DE s.heap d es ep)
 (hI:∀e h',es[i]?=aB e->h'.IsKeyIter it d (i+1) es.size ep->Heap.SameBut it s.heap h'->Q (aB e.key) {s with heap:=h'})
 (hE:es[i]?=aC->∀h',Heap.ExtBut it s.heap h'->Q aC {s with heap:=h'}):wpAny (model prog w) A (pyNext (.ref it)) Q E s:=by
 have hT:=hit.typeIs;obtain⟨o,ho,hc,hd⟩:=id hit;obtain⟨od,hod,_,ER⟩:=hm;unfold pyNext;refine aJ (xJ (pQ (name:=Str.ofString "__next__") hT F.slot_dict_keyiterator_next
  (kG F.slot_dict_keyiterator_next hT F.entry_dict_keyiterator_next ?_ (F.args_dict_keyiterator_next_1 _))))
 refine aJ (bg (aJ (aJ ?_)));first|refine aJ (wpAny_typeNameOfWhole_keyiter hT (bg ?_))|refine aJ (wpAny_typeNameOf_keyiter hT (bg ?_))
 refine aJ (wpAny_fieldsOf ho hd ?_);have hown:Builtin.Dict_items.ownsTuple "dict_keyiterator" = false:=by decide
 simp only[hown,eW,dF];show wpAny _ _ (if(Value.ref d==Value.none)=true then _ else _) _ _ s;rw[if_neg (show ¬((Value.ref d==Value.none)=true)from nJ)];refine aJ (bg (aJ (wpAny_dictEntries hod ER ?_)));rw[if_neg (by simp)];refine aJ (bg (aJ (wpAny_dictEpoch hod ER ?_)));rw[if_neg (by simp)];refine bg ?_;simp only[show ¬((i:Int)<0)from by lia,dF,qI];cases hx:es[i]? with
 |some e=>
  refine aJ ?_;first|refine aJ (wpAny_typeNameOfWhole_keyiter hT (bg ?_))|refine aJ (wpAny_typeNameOf_keyiter hT (bg ?_))
  refine aJ (wpAny_isOneOf_keyiter hT ?_);show wpAny _ _ (setField (.ref it) 1 (rawInt ((i:Int)+1)) >>= _) _ _ s;refine aJ (u6 ho hd (by simp) ?_);have nX:(s.heap.update it (Obj.mapFields (·.setIfInBounds 1 (rawInt ((i:Int)+1))))).IsKeyIter it d (i+1) es.size ep:=
   ⟨_,zp _ ho (DW (tH hd _)),(Obj.cls_mapFields ..).trans hc,by rw[tH hd];simp[rawInt]⟩
  refine aJ (nA (aJ (wpAny_isOneOf_keyiter (s:={s with heap:=s.heap.update it (Obj.mapFields (·.setIfInBounds 1 (rawInt ((i:Int)+1))))}) nX.typeIs ?_)));show wpAny _ _ (pure e.key) _ _ _;exact bg (bg ⟨_,rfl,bg (hI _ _ hx nX (tG ..))⟩)
 |none=>
  refine aJ ?_;first|refine aJ (wpAny_typeNameOfWhole_keyiter hT (bg ?_))|refine aJ (wpAny_typeNameOf_keyiter hT (bg ?_))
  show wpAny _ _ (setField (.ref it) 0 .none >>= _) _ _ s;refine aJ (u6 ho hd (by simp) ?_);show wpAny _ _ (newExc (.type "StopIteration") [] >>= _) _ _ _;refine aJ ?_;simp only[newExc,newTuple];refine aJ (k9 ?_ (by size_fits));refine aJ (m:=firstArgMember _ _) (qo (a:=Value.none) (by first|rfl|(simp only[firstArgMember];rfl)) ?_);refine k9 ?_ (by size_fits);simp only[raiseNew];refine aJ (wpAny_handled ?_);rw[show A.in1.handled=aC from hh];refine aJ (bg (wpAny_throw ?_));refine aJ (uZ (T:="StopIteration") (b:=true) ⟨_,gh _ rfl,rfl⟩ isSubtype_stop ?_);exact bg (hE hx _ (((tG ..).extBut.push _).push _))
theorem Vz(hh:A.handled=aC)(hne:d≠it):Walks prog w A it [it,d] [it] es.size (λi v=>∃e,es[i]?=aB e/\v=e.key) (λi h=>h.IsKeyIter it d i es.size ep/\DE h d es ep)where
 sub:=λb hb=>by simp at hb;simp[hb]
 frame:=λ_ _ _ st k=>⟨st.1.at λo e=>k it (by simp) o e,st.2.at_ λo e=>k d (by simp) o e⟩
 item:=λi s Q E hi st hQ=>by
  refine M5 hh st.1 st.2 (λe h' hx nX hs=>?_) λhx=>?_;exact hQ _ h' s.toks ⟨e,hx,rfl⟩ ⟨nX,st.2.at_ λo q=>hs.extBut d o hne q⟩ λb o hb q=>hs.extBut b o (λh=>hb (by simp[h])) q;simp at hx;lia
 done:=λs Q E st hQ=>by
  refine M5 hh st.1 st.2 (λe h' hx nX hs=>?_) λhx h' he=>?_;simp at hx;exact hQ h' s.toks λb o hb q=>he b o (λh=>hb (by simp[h])) q
 self:=λ_ _ _ _ st hQ=>wpAny_pyIter_keyiter st.1 hQ
theorem VA(hd:(d==sysModules)=false):KdlSrc prog w "dict" d d es.size (λi v=>∃e,es[i]?=aB e/\v=e.key) (λh=>DE h d es ep)where
 type:=λ_ hm=>hm.ty
 there:=λ_ hm=>⟨hm.lt,hm.lt⟩
 keep:=λ_ _ hm hk=>hm.at_ λo e=>hk d (.inl rfl) o e
 notList:=by decide
 notTuple:=by decide
 hint:=λ_ _ _ _ hm hq=>kdl_hint_dict hm.ty hq
 iter:=λ_ _ hh hm=>⟨_,_,(λ_ _ hq=>Vy hd hm hq),Vz hh (fB hm.lt),⟨⟨_,gh _ rfl,rfl,rfl⟩,hm.at_ λo e=>dH _ e⟩⟩
end
theorem VB{d:ah}{es:Array DictEntry}{ep:Nat}(hd:(d==sysModules)=false)(hz:es.size<=sizeLine) :
 Meets (Builtin.«tuple.__new__» ⟨[.type "tuple",.ref d],[]⟩)
  (λA R s=>A.handled=aC/\DE s.heap d es ep/\∀(h':az)(tk:Nat),(∀b o',s.heap.get? b=aB o'->h'.get? b=aB o')->R (.ok (.ret (.ref h'.objs.size))) {s with heap:=h'.push {cls:=.type "tuple",data:=.seq (es.map (·.key))},toks:=tk}):=
 .of_wp λprog w A R s h=>by
  obtain⟨hp,g,dd,tk,os⟩:=s;obtain⟨hh,ht,h⟩:=h;have hsub:=sub_tuple_self;have M6:=init_tuple_lookup;have hmh:=madeHere_tuple;obtain⟨o,e1,e2,e3⟩:=id ht;have hT:Shared.TypeIs ⟨hp,g,dd,tk,os⟩ (.ref d) "dict":=ht.ty
  wp_walk using wpAny_loadPart' e1,Dv hT,kdu_collect (A:=A.in1) (VA (ep:=ep) (es:=es) hd) hh ht hz;intro h' tk' acc hk hacc;have e:acc=es.map (·.key):=by
   apply Array.ext_getElem?;intro j;rw[Array.getElem?_map];cases q:acc[j]? with
   |none=>
    have:es.size<=j:=by rw[<-hacc.1];simpa using q
    rw[Array.getElem?_eq_none this];rfl
   |some v=>
    obtain⟨x,h1,h2⟩:=hacc.2 j v q;rw[h1,h2];rfl
  show wpAny _ _ (Builtin.Tuple.tupleExact acc.toList.toArray >>= λv=>ret v) _ _ _;unfold Builtin.Tuple.tupleExact;refine aJ (k9 ?_ (by show acc.toList.toArray.size<=sizeLine;simpa[hacc.1]using hz));refine bg ⟨_,rfl,?_⟩;have e':acc.toList.toArray=acc:=by simp
  rw[e',e];exact h h' tk' hk
section
variable{prog:ai}{w:aj}{A:ak}{E:aa->af->Prop}{s:af}{d:ah}{es:Array DictEntry}{ep:Nat}
theorem VC{Q:aa->af->Prop}(hh:A.handled=aC)(hd:(d==sysModules)=false)(hm:DE s.heap d es ep)(hz:es.size<=sizeLine)
 (h:∀(h':az)(tk:Nat),(∀b o',s.heap.get? b=aB o'->h'.get? b=aB o')->Q (.ref h'.objs.size) {s with heap:=h'.push {cls:=.type "tuple",data:=.seq (es.map (·.key))},toks:=tk}) :
 wpAny (model prog w) A (call (.type "tuple") [.ref d]) Q E s:=
 Dw F.called_tuple (by decide) (F.typeCall_tuple_1 _) (F.newCall_tuple_1 _) (λobj=>F.args_object_init_2 obj _) F.entry_tuple_new
  (VB hd hz) ⟨hh,hm,λh' tk hk=>⟨⟨_,gh _ rfl,rfl⟩,h h' tk hk⟩⟩
end
end L2
namespace L2
open PySem PySem.Spec PyProof.Rows PySem.W
section
variable{X:Cx}{pins:List (ah×Obj)}{σ:St}{H:Hp}{s:af}{a b:ah}{k:DK}{xs:DX}
theorem DT.de(I:Inv X pins σ H s)(h:DT X.K H a xs):∃(es:Array DictEntry) (ep:Nat),DE s.heap a es ep/\es.size=xs.length/\∀(i:Nat) (p:DK×ah×V),xs[i]?=aB p->∃e:DictEntry,es[i]?=aB e/\e.key=Value.ref p.2.1:=by
 obtain⟨g1,_,us,r,o,es,ep,b1,b2,b3,b4,g2⟩:=h.dict I;clear h g1 g2;refine⟨es,ep,⟨o,b1,b2,b3⟩,?_,λi p hp=>?_⟩;rw[<-zw,b4,bF,vm r];have:∃q,us[i]?=aB q/\p.2.1=q.2.1:=by
  clear b4;revert i;induction r with
  |nil=>intro i hp;simp at hp
  | @cons p0 q0 ps qs h t ih=>
   intro i hp;cases i with|zero=>simp at hp;subst hp;exact⟨q0,rfl,h.2.1⟩|succ i=>exact ih i (by simpa using hp)
 obtain⟨q,h1,h2⟩:=this;refine⟨⟨M3 q.1,.ref q.2.1,q.2.2⟩,?_,by rw[h2]⟩;rw[<-Array.getElem?_toList,b4,iC,h1];rfl
noncomputable def rA(K:aO)(neg:Bool):R2:=λx y H Q=>∃a b xs k,y=.ref a/\x=.ref b/\DT K H a xs/\cV K H k b/\Q (.bl (if neg then !(bL xs k).isSome else(bL xs k).isSome)) H
theorem VD(hu:X.A.units+2<cLine):dW X (compareOp .In) (rA X.K false):=by intro pins s σ H x y v u Q I rx ry h;obtain⟨a,b,xs,k,rfl,rfl,d,kk,q⟩:=h;cases rx;cases ry;exact AN hu I d kk λs' I'=>⟨.bl _,H,I',rfl,q⟩
theorem VE(hu:X.A.units+2<cLine):dW X (compareOp .NotIn) (rA X.K true):=by intro pins s σ H x y v u Q I rx ry h;obtain⟨a,b,xs,k,rfl,rfl,d,kk,q⟩:=h;cases rx;cases ry;exact Vv hu I d kk λs' I'=>⟨.bl _,H,I',rfl,q⟩
theorem DT.typeIs(I:Inv X pins σ H s)(h:DT X.K H a xs):s.TypeIs (.ref a) "dict":=let⟨_,_,d,_⟩:=h.de I;d.ty
noncomputable def AO(K:aO):R2:=λx y H Q=>∃a b xs k p,x=.ref a/\y=.ref b/\DT K H a xs/\cV K H k b/\bL xs k=aB p/\Q p.2 H
theorem AQ(hu:X.A.units+2<cLine):pZ X (AO X.K):=by intro value slice pins s σ H x y v u Q I rx ry q hs;obtain⟨a,b,xs,k,p,rfl,rfl,d,kk,g,q⟩:=q;cases rx;cases ry;exact tail_any (d.typeIs I) PySem.F.slot_dict_getitem.lookup (Vu hu I d kk g λw' s3 I3 rw'=>⟨p.2,H,I3,rw',q⟩) hs
noncomputable def AR(K:aO):V->V->V->Hp->(Hp->Prop)->Prop:=λo i v H Q=>∃a b xs k,o=.ref a/\i=.ref b/\DT K H a xs/\tK (H a)/\cV K H k b/\xs.length<sizeLine/\Q (upd H a (mJ (iG xs k b v) a))
theorem VF(hu:X.A.units+2<cLine):jR X (AR X.K):=by intro pins s σ H o i v ov iv u Q I ro ri rv h;obtain⟨a,b,xs,k,rfl,rfl,d,mu,kk,hz,q⟩:=h;cases ro;cases ri;exact Vw hu I d mu kk hz rv λs' I'=>⟨_,I',q⟩
theorem jR.or{t t':V->V->V->Hp->(Hp->Prop)->Prop}(h:jR X t)(h':jR X t'):jR X (λo i v H Q=>t o i v H Q\/t' o i v H Q):=by
 intro pins s σ H o i v ov iv u Q I ro ri rv q;rcases q with q|q
 exact h pins s σ H o i v ov iv u Q I ro ri rv q;exact h' pins s σ H o i v ov iv u Q I ro ri rv q
theorem VG:bK X (.builtin "len") (λys H Q=>∃a xs,ys=[.ref a]/\DT X.K H a xs/\Q (.int xs.length) H):=by intro pins s σ H ys us Q I r h;obtain⟨a,xs,rfl,d,q⟩:=h;obtain⟨u,rfl,rx⟩:=vals1 r;cases rx;obtain⟨es,ep,de,hz,_⟩:=d.de I;obtain⟨hl,hd,_⟩:=d.dict I;refine Vx hd de (by rw[hz];have:=lg;lia) λt tk=>⟨.int xs.length,H,I.tok _,⟨t,by rw[hz]⟩,q⟩
theorem VI(hc:X.calm):bK X (.type "tuple") (λys H Q=>∃a xs,ys=[.ref a]/\DT X.K H a xs/\∀l,H l=aC->Q (.ref l) (upd H l (.tup (xs.map λp=>.ref p.2.1)))):=by
 intro pins s σ H ys us Q I r h;obtain⟨a,xs,rfl,d,q⟩:=h;obtain⟨u,rfl,rx⟩:=vals1 r;cases rx;obtain⟨es,ep,de,hz,hk⟩:=d.de I;obtain⟨hl,hd,_⟩:=d.dict I;refine VC (I.ok.hd hc) hd de (by lia) λh' tk kp=>?_;have I1:Inv X pins σ H {s with heap:=h',toks:=tk}:=I.kept (t':=tk) kp;have rv:Vals (xs.map λp=>.ref p.2.1) (es.map (·.key)).toList:=by
  have:∀(xs:DX)(ls:List DictEntry),ls.length=xs.length->(∀(i:Nat)(p:DK×ah×V),xs[i]?=aB p->∃e:DictEntry,ls[i]?=aB e/\e.key=Value.ref p.2.1)->Vals (xs.map λp=>V.ref p.2.1) (ls.map (·.key)):=by
   intro xs;induction xs with
   |nil=>intro ls e _;cases ls with|nil=>exact .nil|cons=>cases e
   |cons p ps ih=>
    intro ls e h;cases ls with
    |nil=>cases e
    |cons l ls=>
     obtain⟨e',h1,h2⟩:=h 0 p rfl;cases h1;refine .cons ?_ (ih ls (by simpa using e) λi q hq=>by simpa using h (i+1) q (by simpa using hq));exact h2
  have:=this xs es.toList (by simpa using hz) (λi p hp=>by simpa using hk i p hp);simpa using this
 have I2:Inv X pins σ (upd H h'.objs.size (.tup (xs.map λp=>.ref p.2.1))) {s with heap:=h'.push {cls:=.type "tuple",data:=.seq (es.map (·.key))},toks:=tk}:=
  I1.laid (t':=tk) (λb o e=>dH _ e) (bq _) (show aZ X.prog X.w _ _ _ (.tup _)from⟨by rw[bF];exact hl,_,rv,by rw[Array.toArray_toList];exact nq.new h' (es.map (·.key))⟩)
 exact⟨.ref h'.objs.size,_,I2,rfl,q _ (I1.hok.fresh (bq _))⟩
noncomputable def VJ(K:aO)(lF:List (TE×TE)):TE:=λσ H Q=>∀p,H p=aC->EG lF σ (upd H p (.dK [])) λps H2=>H2 p=aB (.dK [])/\((∃kvs:List (Key×V),ps=kvs.map (λkv=>(kV kv.1,kv.2))/\kvs.length<=15/\Q (.ref p) (upd H2 p (.dK (tT [] kvs))))\/
 ∃b k v,ps=[(.ref b,v)]/\cV K H2 k b/\Q (.ref p) (upd H2 p (mJ [(k,b,v)] p)))
theorem VL{pos:Pos}{keys:List (Option ao)}{values:List ao}{lF:List (TE×TE)}(hu:X.A.units+2<cLine)(h:AD X pos keys values lF)(hall:keys.all (·.isSome))(hl:keys.length=values.length)(h0:keys≠[])
 (HY:keys.length<=15):PE X (.Dict keys values pos) (VJ X.K lF):=by
 intro pins s σ H Q I q;have hn:=I.hok.fresh (bq s.heap.objs.size);have I1:=I.laid (a:=s.heap.objs.size) (o:=.dK []) (h':=s.heap.push {cls:=.type "dict",data:=.dict #[]}) (t':=s.toks) (λ_ _ q=>dH _ q) (bq _) (MT s.heap I.big);refine wpAny_Dict_any hall hl h0 HY (bG (h pins _ σ _ _ I1 (q _ hn)) λws s2 dU=>?_);obtain⟨ps,H2,I2,rel,e,q2⟩:=dU;unfold storeAll;rcases q2 with⟨kvs,ep,lk,q2⟩|⟨b,k,v,ep,kk,q2⟩
 subst ep;obtain⟨rs,c,rk⟩:=MW (P:=X.prog) (w:=X.w) rel;obtain⟨z,hd,yr,r0,dd⟩:=nU I2.hok e;cases r0;have hr:rs.length=kvs.length:=(vm rk).symm;refine wpAny_storeAll (knd:=iD X.prog X.w) ws rs [] s2 _ c dd (by rw[qw,lg];lia) λh' nV hs=>⟨.ref s.heap.objs.size,_,?_,rfl,q2⟩
 have hz:(tT [] kvs).length<=sizeLine:=by have h1:=MV kvs [];rw[qw]at h1;rw[lg];lia
 have he:∃q,h'.get? s.heap.objs.size=aB q:=let⟨q,_,_,hq,_⟩:=nV;⟨q,hq⟩;exact AB I2 (by rw[e];exact True.intro) hs he (MS hz hd (rk.merge .nil) nV);subst ep;cases rel with
 | @cons p0 w0 ps0 HZ rp rr=>
  cases rr;obtain⟨w1,w2⟩:=w0;obtain⟨r1,r2⟩:=rp;cases r1;have d:DT X.K H2 s.heap.objs.size []:=.inr ⟨rfl,.inl e⟩;obtain⟨_,y,us,rl,dd⟩:=d.dict I2;cases rl;rw[xP];refine aJ (aJ (wpAny_dictSet_heap (knd:=jk X.prog X.w) (hsz:=by simp) (by show X.A.units+1<cLine;lia) (kk.is I2) dd λh' nV hs=>bg ?_));show wpAny _ _ (pure _) _ _ _;refine bg ⟨.ref s.heap.objs.size,_,?_,rfl,q2⟩;obtain⟨q,es,ep,hq,h2,h3,h4,_,h5⟩:=nV;refine AB I2 (by rw[e];exact True.intro) hs ⟨q,hq⟩ (zs2 ⟨by rw[lg];exact Nat.le_add_left 1 16777215,y,by simp,[(k,b,w2)],.cons ⟨rfl,rfl,r2⟩ .nil,q,es,ep,hq,h2,h3,h4⟩)
end
end L2
namespace RF
open PySem
inductive W where
 |aI|bl (b:Bool)|int (i:Int)|str (x:Str)|tup (ws:List W)|fz (ws:List W)|ref (i:Nat)
mutual
noncomputable def W.lt(n:Nat):W->Bool|.tup ws=>W.kN n ws|.fz ws=>W.kN n ws|.ref i=>Nat.blt i n|_=>true
noncomputable def W.kN(n:Nat):List W->Bool|[]=>true|w::ws=>W.lt n w&&W.kN n ws
end
inductive VO where
 |lst (ws:List W)|dk (kvs:List (L2.Key×W))|dm (kvs:List (L2.Key×W))|dt (ks ws:List W)
structure VH where
 n:Nat
 lo:Nat
 os:List VO
noncomputable def VH.get(h:VH)(i:Nat):Option VO:=if Nat.blt i h.n then h.os[h.n-1-i]? else aC
noncomputable def VH.set(h:VH)(i:Nat)(o:VO):VH:=⟨h.n,if Nat.blt i h.lo then i else h.lo,h.os.set (h.n-1-i) o⟩
noncomputable def VH.new(h:VH)(o:VO):VH:=⟨h.n+1,h.lo,o::h.os⟩
inductive Res(α:Type)where
 |ok (a:α) (h:VH)|ex (x:W) (h:VH)|no
noncomputable def Res.bind{α β:Type}(r:Res α)(f:α->VH->Res β):Res β:=match r with|.ok a h=>f a h|.ex x h=>.ex x h|.no=>.no
noncomputable def Res.of{α:Type}(o:Option α)(h:VH):Res α:=match o with|some a=>.ok a h|none=>.no
inductive Op where
 |add|sub|mul|fdiv|mod|shl|pow
 deriving DecidableEq
inductive Cp where
 |eq|ne|lt|le|gt|ge|ja|gK|mK|rD
 deriving DecidableEq
inductive Ty where
 |int|bool|tuple|list|str|dict
 deriving DecidableEq
inductive Bi where
 |len|list|tuple|int|abs|max|min|all|Ia|sum|ES|AS|AU|bN
 deriving DecidableEq
inductive Mt where
 |append|get|count
 deriving DecidableEq
inductive Kd where
 |seq|fj|Ib|p5|zip|keys|rev
 deriving DecidableEq
inductive Tg where
 |one (i:Nat)|many (is:List Nat)|two (is:List Nat) (j:Nat)
 deriving DecidableEq
inductive E where
 |var (i:Nat)|cst (w:W)
 |nil|cons (a r:E)
 |tup (a:E)|lst (a:E)|nt (a:E)
 |op (o:Op) (a b:E)|neg (a:E)
 |cmp (c:Cp) (a b:E)|vP (c d:Cp) (a b e:E)
 |not (a:E)|and (a b:E)|or (a b:E)|jb (a:E)|ite (c a b:E)
 |idx (a b:E)|slc (a:E) (bl:Bool) (lo:E) (bh:Bool) (hi:E)
 |call (f:Nat) (a:E)|bi (b:Bi) (a:E)|nY (t:Ty) (a:E)|mt (m:Mt) (o a:E)
 |lc (k:Kd) (a:E) (t:Tg) (ow:Nat) (ix:List Nat) (c e:E)
 |M7 (k:Kd) (a:E) (t:Tg) (ow:Nat) (ix:List Nat) (c:E) (k2:Kd) (a2:E) (t2:Tg) (c2 e:E)
 |dc (k:Kd) (a:E) (t:Tg) (ow:Nat) (ix:List Nat) (c e v:E)
inductive S where
 |skip|seq (a b:S)|set (i:Nat) (e:E)|lH (is:List Nat) (e:E)|aug (i:Nat) (o:Op) (e:E)
 |put (o i v:E)|M8 (o:E) (bl:Bool) (lo:E) (bh:Bool) (hi v:E)|ite (c:E) (a b:S)|ret (e:E)|expr (e:E)|brk|cnt
 |for (k:Kd) (a:E) (t:Tg) (b:S)|n9 (c:E) (b:S)|no
noncomputable abbrev En:=List (Option W)
inductive Fl where
 |nx (ρ:En)|rt (w:W)|bk (ρ:En)|ct (ρ:En)
noncomputable def aW{α β:Type}(f:α->Option β):List α->Option (List β)
 |[]=>aB []
 |a::r=>match f a with
  |some b=>(match aW f r with
   |some bs=>aB (b::bs)
   |none=>aC)
  |none=>aC
noncomputable def toD(h:VH):Nat->W->Option aA
 |0,_=>aC
 |n+1,w=>match w with
  |.aI=>aB .none
  |.bl b=>aB (.bool b)
  |.int i=>aB (.int i)
  |.str x=>aB (.str x)
  |.tup ws=>(aW (toD h n) ws).map .tuple
  |.fz ws=>(aW (toD h n) ws).map .list
  |.ref i=>match h.get i with
   |some (.lst ws)=>(aW (toD h n) ws).map .list
   |_=>aC
noncomputable def cR(h:VH)(x y:W):Option Bool:=
 match toD h 24 x,toD h 24 y with|some d,aB e=>if SeqAt.shaped d&&SeqAt.shaped e then aB (PyData.eqv d e)else aC|_,_=>aC
noncomputable def big:Nat:=16777216
noncomputable def nu(i:Int):Bool:=decide (-(2 ^ 64)<i)&&decide (i<2 ^ 64)
noncomputable def eF:Op->Int->Int->Option Int|.add,i,j=>aB (i+j)|.sub,i,j=>aB (i-j)|.mul,i,j=>if nu i||nu j then aB (i*j)else aC|.fdiv,i,j=>if decide (0<j)&&decide (j<1073741824)then aB (i/j)else aC|.mod,i,j=>if decide (0<j)then aB (i % j)else aC|.shl,i,j=>if decide (0<=j)&&decide (j<=1000000)&&decide (i.natAbs<2 ^ 64)then aB (i*2 ^ j.toNat)else aC|.pow,i,j=>if decide (0<=j)&&decide (j<=1000000)&&decide (i.natAbs<2 ^ 64)then aB (i ^ j.toNat)else aC
noncomputable def Ic:Op->List W->List W->Option (List W)|.add,xs,ys=>if Nat.ble (xs.length+ys.length) big then aB (xs++ys)else aC|_,_,_=>aC
noncomputable def fits(i:Int):Bool:=decide (-(2 ^ 62)<=i)&&decide (i<2 ^ 62)
noncomputable def oh(o:Op)(xs:List W)(k:Int):Option (List W):=match o with|.mul=>if fits k&&Nat.ble (xs.length*k.toNat) big then aB (bf k.toNat xs).flatten else aC|_=>aC
noncomputable def ck(o:Op)(x y:W)(h:VH):Res W:=match x,y with
 |.int i,.int j=>.of ((eF o i j).map .int) h
 |.ref i,.int k=>(match h.get i with
  |some (.lst xs)=>(match oh o xs k with
   |some zs=>.ok (.ref h.n) (h.new (.lst zs))
   |none=>.no)
  |_=>.no)
 |.ref i,.ref j=>match h.get i,h.get j with
  |some (.lst xs),aB (.lst ys)=>(match Ic o xs ys with
   |some zs=>.ok (.ref h.n) (h.new (.lst zs))
   |none=>.no)
  |_,_=>.no
 |_,_=>.no
noncomputable def yt(o:Op)(x y:W)(h:VH):Res W:=match x,y with
 |.int i,.int j=>(match o with
  |.add=>.ok (.int (i+j)) h
  |_=>.no)
 |_,_=>.no
noncomputable def fJ:Cp->Int->Int->Option Bool|.lt,i,j=>aB (decide (i<j))|.le,i,j=>aB (decide (i<=j))|.gt,i,j=>aB (decide (j<i))|.ge,i,j=>aB (decide (j<=i))|_,_,_=>aC
noncomputable def bB:W->Bool|.aI=>true|_=>false
noncomputable def aN(h:VH):W->Option (List W)
 |.tup ws=>aB ws
 |.fz ws=>aB ws
 |.ref i=>match h.get i with
  |some (.lst ws)=>aB ws
  |_=>aC
 |_=>aC
noncomputable def intD:W->Option Int|.int i=>aB i|_=>aC
noncomputable def dX:W->Option L2.DK|.tup [.tup ws,.aI]=>(aW intD ws).map λis=>(is,aC)|.tup [.tup ws,.int i]=>(aW intD ws).map λis=>(is,aB i)|_=>aC
noncomputable def dM:List W->List W->L2.DK->Option W|k::ks,w::ws,d=>if dX k=aB d then aB w else dM ks ws d|_,_,_=>aC
noncomputable def inD(h:VH)(x y:W):Option Bool:=match y with
 |.ref a=>(match h.get a,dX x with
  |some (.dt ks ws),aB k=>aB (dM ks ws k).isSome
  |_,_=>aC)
 |_=>aC
noncomputable def rE(h:VH)(a:Nat)(y:W):Option W:=match h.get a,dX y with|some (.dt ks ws),aB k=>dM ks ws k|_,_=>aC
noncomputable def jl(h:VH)(x:W):Option (List W):=match x with
 |.ref a=>(match h.get a with
  |some (.dt ks _)=>aB ks
  |_=>aC)
 |_=>aC
noncomputable def j5(h:VH)(x y:W):Option Bool:=match aN h y,toD h 24 x with
 |some ws,aB d=>(match aW (toD h 24) ws with
  |some ds=>if ds.all SeqAt.shaped&&SeqAt.shaped d then aB (L2.fP ds d)else aC
  |none=>aC)
 |_,_=>inD h x y
noncomputable def AV:W->W->Option Bool|.bl c,.bl b=>aB (c==b)|_,_=>aC
noncomputable def aQ(c:Cp)(h:VH)(x y:W):Option Bool:=match c with
 |.mK=>j5 h x y
 |.rD=>(j5 h x y).map (!·)
 |.eq=>cR h x y
 |.ne=>(cR h x y).map (!·)
 |.ja=>if bB y then aB (bB x)else AV x y
 |.gK=>if bB y then aB (!bB x)else(AV x y).map (!·)
 |c=>match x,y with
  |.int i,.int j=>fJ c i j
  |_,_=>aC
noncomputable def fV(h:VH):W->Option Bool
 |.bl b=>aB b
 |.int i=>aB (i != 0)
 |.aI=>aB false
 |.tup ws=>aB (!ws.isEmpty)
 |.ref i=>match h.get i with
  |some (.lst ws)=>aB (!ws.isEmpty)
  |_=>aC
 |_=>aC
noncomputable def mL:W->Option L2.Key|.int i=>aB (.inl i)|.str x=>aB (.inr (aB x))|.aI=>aB (.inr aC)|_=>aC
noncomputable def bE(kvs:List (L2.Key×W))(k:L2.Key):Option W:=(kvs.find? λkv=>decide (kv.1=k)).map (·.2)
noncomputable def gv(kvs:List (L2.Key×W))(k:L2.Key)(w:W):List (L2.Key×W):=
 if(kvs.any λkv=>decide (kv.1=k))=true then kvs.map (λkv=>if kv.1=k then(kv.1,w)else kv)else kvs++[(k,w)]
noncomputable def bx(h:VH)(x y:W):Option W:=match x,y with
 |.tup ws,.int i=>L2.cz ws i
 |.fz ws,.int i=>L2.cz ws i
 |.ref a,.int i=>(match h.get a with
  |some (.lst ws)=>L2.cz ws i
  |some (.dk kvs)=>bE kvs (.inl i)
  |some (.dm kvs)=>bE kvs (.inl i)
  |_=>aC)
 |.ref a,.str x=>(match h.get a with
  |some (.dk kvs)=>bE kvs (.inr (aB x))
  |_=>aC)
 |.ref a,y=>rE h a y
 |_,_=>aC
noncomputable def dN(b:Bool)(w:W):Option (Option Int):=match b,w with|false,_=>aB aC|true,.int i=>aB (aB i)|_,_=>aC
noncomputable def gw(ws:List W)(lo hi:Option Int):List W:=(ws.drop (HT.bI ws.length 0 lo)).take (HT.bI ws.length ws.length hi-HT.bI ws.length 0 lo)
noncomputable def jD(x:W)(l u:Option Int)(h:VH):Res W:=match x with
 |.tup ws=>.ok (.tup (gw ws l u)) h
 |.ref i=>(match h.get i with
  |some (.lst ws)=>.ok (.ref h.n) (h.new (.lst (gw ws l u)))
  |_=>.no)
 |_=>.no
@[simp] theorem AW {ws:List W} {l u:Option Int} {h:VH}:jD (.tup ws) l u h=.ok (.tup (gw ws l u)) h:=rfl
noncomputable def eS:Ty->VH->W->Option Bool
 |t,_,.aI=>aB false
 |t,_,.bl _=>aB (t == .int||t == .bool)
 |t,_,.int _=>aB (t == .int)
 |t,_,.str _=>aB (t == .str)
 |t,_,.tup _=>aB (t == .tuple)
 |_,_,.fz _=>aC
 |t,h,.ref i=>match h.get i with
  |some (.lst _)=>aB (t == .list)
  |some (.dk _)=>aB (t == .dict)
  |_=>aC
noncomputable def fK(xs:List W)(h:VH):Res W:=match xs with
 |[x]=>.of (match aN h x with
  |some ws=>aB (.int ws.length)
  |none=>(jl h x).map λks=>.int ks.length) h
 |_=>.no
noncomputable def cX:L2.Key->W|.inl i=>.int i|.inr (aB x)=>.str x|.inr aC=>.aI
noncomputable def oj(h:VH)(x:W):Option (List W):=match x with
 |.ref a=>(match h.get a with
  |some (.dm kvs)=>aB (kvs.map λkv=>cX kv.1)
  |_=>aC)
 |_=>aC
noncomputable def gS(xs:List W)(h:VH):Res W:=match xs with
 |[x]=>(match aN h x with
  |some ws=>.ok (.ref h.n) (h.new (.lst ws))
  |none=>(match oj h x with
   |some ws=>.ok (.ref h.n) (h.new (.lst ws))
   |none=>.no))
 |_=>.no
noncomputable def om(xs:List W)(h:VH):Res W:=match xs with
 |[x]=>.of (match aN h x with
  |some ws=>aB (.tup ws)
  |none=>(jl h x).map .tup) h
 |_=>.no
noncomputable def jE(xs:List W)(h:VH):Res W:=match xs with|[.int i]=>.ok (.int i) h|[.bl b]=>.ok (.int (if b then 1 else 0)) h|_=>.no
noncomputable def kO(xs:List W)(h:VH):Res W:=match xs with|[.int i]=>.ok (.int (if i<0 then -i else i)) h|_=>.no
noncomputable def AX(xs:List W)(h:VH):Res W:=match xs with|[.int i,.int j]=>.ok (.int (if j>i then j else i)) h|_=>.no
noncomputable def kP(xs:List W)(h:VH):Res W:=match xs with|[.int i,.int j]=>.ok (.int (if j<i then j else i)) h|_=>.no
noncomputable def vQ(x w:W)(l u:Option Int)(h:VH):Res W:=match x,w with
 |.ref a,.ref b=>(match h.get a,h.get b with
  |some (.lst ws),aB (.lst zs)=>if Nat.beq a b then .no else if Nat.ble (HT.bI ws.length 0 l) (HT.bI ws.length ws.length u)&&Nat.ble (ws.length+zs.length) big then
   .ok .aI (h.set a (.lst (ws.take (HT.bI ws.length 0 l)++zs++ws.drop (HT.bI ws.length ws.length u))))else .no
  |_,_=>.no)
 |_,_=>.no
noncomputable def tW:W->Option Bool|.bl b=>aB b|_=>aC
noncomputable def mO(xs:List W)(h:VH):Res W:=match xs with
 |[.ref i]=>(match h.get i with
  |some (.lst ws)=>.of ((aW tW ws).map λbs=>.bl (bs.all id)) h
  |_=>.no)
 |_=>.no
noncomputable def AY(j:Nat):List W:=(List.range' 0 j).map λ(i:Nat)=>W.int (0+ (i:Int))
noncomputable def tX(xs:List W)(h:VH):Res W:=match xs with|[.int i]=>if decide (0<=i)&&Nat.ble i.toNat big then .ok (.ref h.n) (h.new (.lst (AY i.toNat)))else .no|_=>.no
noncomputable def iZ:W->Option Int|.int i=>aB i|_=>aC
noncomputable def mP(xs:List W)(h:VH):Res W:=match xs with
 |[.ref i]=>(match h.get i with
  |some (.lst ws)=>.of ((aW iZ ws).map λis=>.int is.sum) h
  |_=>.no)
 |_=>.no
noncomputable def mQ(xs:List W)(h:VH):Res W:=match xs with|[.int i,.int j]=>if decide (0<j)&&decide (j<1073741824)then .ok (.tup [.int (i/j),.int (i % j)]) h else .no|_=>.no
noncomputable def mR{α:Type}(f:α->Int)(x:α):List α->List α|[]=>[x]|y::r=>if decide (f x<=f y)then x::y::r else y::mR f x r
noncomputable def dD{α:Type}(f:α->Int):List α->List α|[]=>[]|x::r=>mR f x (dD f r)
noncomputable def pW:W->Option (Int×Int)|.tup [.int a,.int b]=>aB (a,b)|_=>aC
noncomputable def wP(p:Int×Int):W:=.tup [.int p.1,.int p.2]
noncomputable def yu:List Int->Bool|[]=>true|x::r=>!(r.contains x)&&yu r
noncomputable def j6(ws:List W):Option (List W):=match aW iZ ws with
 |some is=>aB ((dD id is).map .int)
 |none=>(match aW pW ws with
  |some ps=>if yu (ps.map (·.1))then aB ((dD (·.1) ps).map wP)else aC
  |none=>aC)
noncomputable def mS(xs:List W)(h:VH):Res W:=match xs with
 |[.ref i]=>(match h.get i with
  |some (.lst ws)=>if Nat.blt ws.length 64 then(match j6 ws with
   |some ys=>.ok (.ref h.n) (h.new (.lst ys))
   |none=>.no)else .no
  |_=>.no)
 |_=>.no
noncomputable def vR(xs:List W)(h:VH):Res W:=match xs with|[]=>.ok (.ref h.n) (h.new (.dm []))|_=>.no
noncomputable def mT(xs:List W)(h:VH):Res W:=match xs with
 |[.ref i]=>(match h.get i with
  |some (.dm kvs)=>.ok (.ref i) (h.set i (.dk kvs))
  |_=>.no)
 |_=>.no
noncomputable def gT(b:Bi)(xs:List W)(h:VH):Res W:=match b with|.abs=>kO xs h|.max=>AX xs h|.min=>kP xs h|.all=>mO xs h|.Ia=>tX xs h|.sum=>mP xs h|.ES=>mQ xs h|.AS=>mS xs h|.AU=>vR xs h|.bN=>mT xs h|.len=>fK xs h|.list=>gS xs h|.tuple=>om xs h|.int=>jE xs h
noncomputable def VM(h:VH)(x y:W):Option W:=match aN h y,toD h 24 x with
 |some ws,aB d=>(match aW (toD h 24) ws with
  |some ds=>if ds.all SeqAt.shaped&&SeqAt.shaped d then aB (.int (ds.countP λe=>PyData.eqv e d:Nat))else aC
  |none=>aC)
 |_,_=>aC
noncomputable def p9(m:Mt)(o:W)(xs:List W)(h:VH):Res W:=match m,o,xs with
 |.append,.ref i,[x]=>(match h.get i with
  |some (.lst ws)=>if Nat.blt ws.length big then .ok .aI (h.set i (.lst (ws++[x])))else .no
  |_=>.no)
 |.get,.ref i,[k,d]=>(match h.get i,mL k with
  |some (.dk kvs),aB k=>.ok ((bE kvs k).getD d) h
  |some (.dm kvs),aB k=>.ok ((bE kvs k).getD d) h
  |_,_=>.no)
 |.count,o,[x]=>.of (VM h x o) h
 |_,_,_=>.no
noncomputable def vS(m:Mt)(h:VH)(o:W):Bool:=match m,o with
 |.append,.ref i=>(match h.get i with
  |some (.lst _)=>true
  |_=>false)
 |.get,.ref i=>(match h.get i with
  |some (.dk _)=>true
  |some (.dm _)=>true
  |_=>false)
 |.count,.tup _=>true
 |.count,.ref i=>(match h.get i with
  |some (.lst _)=>true
  |_=>false)
 |_,_=>false
noncomputable def bw(k:Kd)(x:W)(i:Nat)(h:VH):Option (Option W):=match k with
 |.seq=>(aN h x).map λws=>ws[i]?
 |.p5=>(match x with
  |.tup ws=>aB ((ws[i]?).map λw=>.tup [.int i,w])
  |_=>aC)
 |.rev=>(match x with
  |.tup ws=>aB ws.reverse[i]?
  |_=>aC)
 |.keys=>(match x with
  |.ref a=>(match h.get a with
   |some (.dk kvs)=>(match kvs[i]? with
    |some kv=>aB (aB (cX kv.1))
    |none=>if Nat.beq i kvs.length then aB aC else aC)
   |_=>aC)
  |_=>aC)
 |.zip=>(match x with
  |.tup [u,v]=>(match aN h u,aN h v with
   |some ws,aB zs=>aB (match ws[i]?,zs[i]? with
    |some a,aB b=>aB (.tup [a,b])
    |_,_=>aC)
   |_,_=>aC)
  |_=>aC)
 |.fj=>(match x with
  |.tup [.int j]=>if fits j then aB (if decide ((i:Int)<j)then aB (.int (0+i))else aC)else aC
  |_=>aC)
 |.Ib=>(match x with
  |.tup [.int a,.int b]=>if fits a&&fits b then aB (if decide ((i:Int)<b-a)then aB (.int (a+i))else aC)else aC
  |_=>aC)
noncomputable def gM:List Nat->List W->En->Option En|[],[],ρ=>aB ρ|i::is,w::ws,ρ=>gM is ws (ρ.set i (aB w))|_,_,_=>aC
noncomputable def bz(t:Tg)(w:W)(h:VH)(ρ:En):Option En:=match t with
 |.one i=>aB (ρ.set i (aB w))
 |.two is j=>(match w with
  |.tup [x,y]=>(match aN h x with
   |some ws=>(match gM is ws ρ with
    |some ρ=>aB (ρ.set j (aB y))
    |none=>aC)
   |none=>aC)
  |_=>aC)
 |.many is=>match aN h w with
  |some ws=>gM is ws ρ
  |none=>aC
noncomputable def fuel:Nat:=1000000
noncomputable def inner(ow:Nat)(ix:List Nat)(ρ:En):En:=bf ow aC++ix.map λj=>(ρ[j]?).join
noncomputable def eG(nx:Nat->VH->Option (Option W))(tg:W->VH->En->Option En)(c:En->VH->Res W)(e:En->VH->Res W):Nat->Nat->En->VH->List W->Res (List W)
 |0,_,_,_,_=>.no
 |f+1,i,ρ,h,acc=>match nx i h with
  |none=>.no
  |some aC=>.ok acc.reverse h
  |some (aB w)=>match tg w h ρ with
   |none=>.no
   |some ρ=>(c ρ h).bind λb h=>match b with
    |.bl true=>(e ρ h).bind λy h=>eG nx tg c e f (i+1) ρ h (y::acc)
    |.bl false=>eG nx tg c e f (i+1) ρ h acc
    |_=>.no
noncomputable def tY(nx:Nat->VH->Option (Option W))(tg:W->VH->En->Option En)(c:En->VH->Res W)(e:En->VH->Res W):Nat->Nat->En->VH->List W->Res (En×List W)
 |0,_,_,_,_=>.no
 |f+1,i,ρ,h,acc=>match nx i h with
  |none=>.no
  |some aC=>.ok (ρ,acc) h
  |some (aB w)=>match tg w h ρ with
   |none=>.no
   |some ρ=>(c ρ h).bind λb h=>match b with
    |.bl true=>(e ρ h).bind λy h=>tY nx tg c e f (i+1) ρ h (y::acc)
    |.bl false=>tY nx tg c e f (i+1) ρ h acc
    |_=>.no
noncomputable def AZ(nx:Nat->VH->Option (Option W))(tg:W->VH->En->Option En)(c:En->VH->Res W)(mK:En->VH->List W->Res (En×List W)):Nat->Nat->En->VH->List W->Res (List W)
 |0,_,_,_,_=>.no
 |f+1,i,ρ,h,acc=>match nx i h with
  |none=>.no
  |some aC=>.ok acc.reverse h
  |some (aB w)=>match tg w h ρ with
   |none=>.no
   |some ρ=>(c ρ h).bind λb h=>match b with
    |.bl true=>(mK ρ h acc).bind λp h=>AZ nx tg c mK f (i+1) p.1 h p.2
    |.bl false=>AZ nx tg c mK f (i+1) ρ h acc
    |_=>.no
noncomputable def A0(nx:Nat->VH->Option (Option W))(tg:W->VH->En->Option En)(c:En->VH->Res W)(e v:En->VH->Res W):Nat->Nat->En->VH->List (L2.Key×W)->Res (List (L2.Key×W))
 |0,_,_,_,_=>.no
 |f+1,i,ρ,h,acc=>match nx i h with
  |none=>.no
  |some aC=>.ok acc h
  |some (aB w)=>match tg w h ρ with
   |none=>.no
   |some ρ=>(c ρ h).bind λb h=>match b with
    |.bl true=>(e ρ h).bind λx h=>(v ρ h).bind λy h=>(match mL x with
     |some k=>if Nat.blt acc.length big then A0 nx tg c e v f (i+1) ρ h (gv acc k y)else .no
     |none=>.no)
    |.bl false=>A0 nx tg c e v f (i+1) ρ h acc
    |_=>.no
noncomputable def cJ(nx:Nat->VH->Option (Option W))(tg:W->VH->En->Option En)(b:En->VH->Res Fl):Nat->Nat->En->VH->Res Fl
 |0,_,_,_=>.no
 |f+1,i,ρ,h=>match nx i h with
  |none=>.no
  |some aC=>.ok (.nx ρ) h
  |some (aB w)=>match tg w h ρ with
   |none=>.no
   |some ρ=>(b ρ h).bind λfl h=>match fl with
    |.nx ρ=>cJ nx tg b f (i+1) ρ h
    |.ct ρ=>cJ nx tg b f (i+1) ρ h
    |.bk ρ=>.ok (.nx ρ) h
    |.rt w=>.ok (.rt w) h
noncomputable def bR(c:En->VH->Res W)(b:En->VH->Res Fl):Nat->En->VH->Res Fl
 |0,_,_=>.no
 |f+1,ρ,h=>(c ρ h).bind λt h=>match t with
  |.bl false=>.ok (.nx ρ) h
  |.bl true=>(b ρ h).bind λfl h=>match fl with
   |.nx ρ=>bR c b f ρ h
   |.ct ρ=>bR c b f ρ h
   |.bk ρ=>.ok (.nx ρ) h
   |.rt w=>.ok (.rt w) h
  |_=>.no
noncomputable def oq:List W->Option (List (L2.Key×W))
 |[]=>aB []
 |k::v::r=>match mL k with
  |some k=>(match oq r with
   |some kvs=>aB ((k,v)::kvs)
   |none=>aC)
  |none=>aC
 |_=>aC
noncomputable def ET(kvs more:List (L2.Key×W)):List (L2.Key×W):=more.foldl (λacc kv=>gv acc kv.1 kv.2) kvs
noncomputable def A1:List (L2.Key×W)->VO|[]=>.dt [] []|kvs=>.dk (ET [] kvs)
noncomputable def jF(ys:List W)(h:VH):Res W:=match ys with
 |[k,w]=>(match dX k with
  |some _=>.ok (.ref h.n) (h.new (.dt [k] [w]))
  |none=>.no)
 |_=>.no
noncomputable def iH(ρ:En)(a:Nat)(j:L2.Key)(w:W)(h:VH):Res Fl:=match h.get a with|some (.dm kvs)=>if Nat.blt kvs.length big then .ok (.nx ρ) (h.set a (.dm (gv kvs j w)))else .no|_=>.no
noncomputable def putD(ρ:En)(a:Nat)(y w:W)(h:VH):Res Fl:=match h.get a,dX y with|some (.dt ks ws),aB k=>if(dM ks ws k).isNone&&Nat.blt ks.length big then .ok (.nx ρ) (h.set a (.dt (ks++[y]) (ws++[w])))else .no|_,_=>.no
noncomputable abbrev Call:=Nat->List W->VH->Res W
noncomputable def ev(cl:Call):E->En->VH->Res W
 |.var i,ρ,h=>.of (ρ[i]?).join h
 |.cst w,_,h=>.ok w h
 |.nil,_,h=>.ok (.tup []) h
 |.cons a r,ρ,h=>(ev cl a ρ h).bind λx h=>(ev cl r ρ h).bind λy h=>match y with
  |.tup ys=>.ok (.tup (x::ys)) h
  |_=>.no
 |.tup a,ρ,h=>(ev cl a ρ h).bind λy h=>match y with
  |.tup ys=>if Nat.ble ys.length 1000 then .ok (.tup ys) h else .no
  |_=>.no
 |.lst a,ρ,h=>(ev cl a ρ h).bind λy h=>match y with
  |.tup ys=>if Nat.ble ys.length 1000 then .ok (.ref h.n) (h.new (.lst ys))else .no
  |_=>.no
 |.nt a,ρ,h=>(ev cl a ρ h).bind λy h=>match y with
  |.tup ys=>(match oq ys with
   |some kvs=>if Nat.ble kvs.length 15 then .ok (.ref h.n) (h.new (A1 kvs))else .no
   |none=>jF ys h)
  |_=>.no
 |.op o a b,ρ,h=>(ev cl a ρ h).bind λx h=>(ev cl b ρ h).bind λy h=>ck o x y h
 |.neg a,ρ,h=>(ev cl a ρ h).bind λx h=>match x with
  |.int i=>.ok (.int (-i)) h
  |_=>.no
 |.cmp c a b,ρ,h=>(ev cl a ρ h).bind λx h=>(ev cl b ρ h).bind λy h=>.of ((aQ c h x y).map .bl) h
 |.vP c d a b e,ρ,h=>(ev cl a ρ h).bind λx h=>(ev cl b ρ h).bind λy h=>match aQ c h x y with
  |some true=>(ev cl e ρ h).bind λz h=>.of ((aQ d h y z).map .bl) h
  |some false=>.ok (.bl false) h
  |none=>.no
 |.not a,ρ,h=>(ev cl a ρ h).bind λx h=>match x with
  |.bl b=>.ok (.bl (!b)) h
  |_=>.no
 |.and a b,ρ,h=>(ev cl a ρ h).bind λx h=>match x with
  |.bl true=>ev cl b ρ h
  |.bl false=>.ok (.bl false) h
  |_=>.no
 |.or a b,ρ,h=>(ev cl a ρ h).bind λx h=>match x with
  |.bl true=>.ok (.bl true) h
  |.bl false=>ev cl b ρ h
  |_=>.no
 |.jb a,ρ,h=>(ev cl a ρ h).bind λx h=>.of ((fV h x).map .bl) h
 |.ite c a b,ρ,h=>(ev cl c ρ h).bind λx h=>match x with
  |.bl true=>ev cl a ρ h
  |.bl false=>ev cl b ρ h
  |_=>.no
 |.idx a b,ρ,h=>(ev cl a ρ h).bind λx h=>(ev cl b ρ h).bind λy h=>.of (bx h x y) h
 |.slc a bl lo bh hi,ρ,h=>(ev cl a ρ h).bind λx h=>(ev cl lo ρ h).bind λl h=>(ev cl hi ρ h).bind λu h=>match dN bl l,dN bh u with
  |some l,aB u=>jD x l u h
  |_,_=>.no
 |.call f a,ρ,h=>(ev cl a ρ h).bind λy h=>match y with
  |.tup ys=>cl f ys h
  |_=>.no
 |.bi b a,ρ,h=>(ev cl a ρ h).bind λy h=>match y with
  |.tup ys=>gT b ys h
  |_=>.no
 |.nY t a,ρ,h=>(ev cl a ρ h).bind λx h=>.of ((eS t h x).map .bl) h
 |.mt m o a,ρ,h=>(ev cl o ρ h).bind λx h=>if vS m h x then(ev cl a ρ h).bind λy h=>match y with
  |.tup ys=>p9 m x ys h
  |_=>.no
  else .no
 |.lc k a t ow ix c e,ρ,h=>(ev cl a ρ h).bind λx h=>(eG (bw k x) (bz t) (ev cl c) (ev cl e) fuel 0 (inner ow ix ρ) h []).bind λys h=>if Nat.ble ys.length big then .ok (.ref h.n) (h.new (.lst ys))else .no
 |.M7 k a t ow ix c k2 a2 t2 c2 e,ρ,h=>(ev cl a ρ h).bind λx h=>(AZ (bw k x) (bz t) (ev cl c) (λρ h acc=>(ev cl a2 ρ h).bind λy h=>tY (bw k2 y) (bz t2) (ev cl c2) (ev cl e) fuel 0 ρ h acc) fuel 0 (inner ow ix ρ) h []).bind λys h=>if Nat.ble ys.length big then .ok (.ref h.n) (h.new (.lst ys))else .no
 |.dc k a t ow ix c e v,ρ,h=>(ev cl a ρ h).bind λx h=>(A0 (bw k x) (bz t) (ev cl c) (ev cl e) (ev cl v) fuel 0 (inner ow ix ρ) h []).bind λkvs h=>.ok (.ref h.n) (h.new (.dk kvs))
noncomputable def exs(cl:Call):S->En->VH->Res Fl
 |.skip,ρ,h=>.ok (.nx ρ) h
 |.seq a b,ρ,h=>(exs cl a ρ h).bind λfl h=>match fl with
  |.nx ρ=>exs cl b ρ h
  |fl=>.ok fl h
 |.set i e,ρ,h=>(ev cl e ρ h).bind λw h=>.ok (.nx (ρ.set i (aB w))) h
 |.lH is e,ρ,h=>(ev cl e ρ h).bind λw h=>.of ((bz (.many is) w h ρ).map .nx) h
 |.aug i o e,ρ,h=>match(ρ[i]?).join with
  |some x=>(ev cl e ρ h).bind λy h=>(yt o x y h).bind λz h=>.ok (.nx (ρ.set i (aB z))) h
  |none=>.no
 |.put o i v,ρ,h=>(ev cl v ρ h).bind λw h=>(ev cl o ρ h).bind λx h=>(ev cl i ρ h).bind λy h=>match x,y with
  |.ref a,.int j=>(match h.get a with
   |some (.lst ws)=>(match L2.iw ws.length j with
    |some k=>.ok (.nx ρ) (h.set a (.lst (ws.set k w)))
    |none=>.no)
   |_=>iH ρ a (.inl j) w h)
  |.ref a,.aI=>iH ρ a (.inr aC) w h
  |.ref a,y=>putD ρ a y w h
  |_,_=>.no
 |.M8 o bl lo bh hi v,ρ,h=>(ev cl v ρ h).bind λw h=>(ev cl o ρ h).bind λx h=>(ev cl lo ρ h).bind λl h=>(ev cl hi ρ h).bind λu h=>(match dN bl l,dN bh u with
  |some l,aB u=>(vQ x w l u h).bind λ_ h=>.ok (.nx ρ) h
  |_,_=>.no)
 |.ite c a b,ρ,h=>(ev cl c ρ h).bind λx h=>match x with
  |.bl true=>exs cl a ρ h
  |.bl false=>exs cl b ρ h
  |_=>.no
 |.ret e,ρ,h=>(ev cl e ρ h).bind λw h=>.ok (.rt w) h
 |.expr e,ρ,h=>(ev cl e ρ h).bind λ_ h=>.ok (.nx ρ) h
 |.brk,ρ,h=>.ok (.bk ρ) h
 |.cnt,ρ,h=>.ok (.ct ρ) h
 |.for k a t b,ρ,h=>(ev cl a ρ h).bind λx h=>cJ (bw k x) (bz t) (exs cl b) fuel 0 ρ h
 |.n9 c b,ρ,h=>bR (ev cl c) (exs cl b) fuel ρ h
 |.no,_,_=>.no
structure Fn where
 ps:Nat
 n:Nat
 body:S
noncomputable def leave(h:VH)(w:W)(h':VH):Res W:=
 if Nat.ble h.n h'.lo&&W.lt h.n w then .ok w h else .ok w ⟨h'.n,if Nat.ble h.lo h'.lo then h.lo else h'.lo,h'.os⟩
noncomputable def run(F:Nat->Option Fn):Nat->Call
 |0,_,_,_=>.no
 |k+1,f,ws,h=>match F f with
  |some fn=>if Nat.beq ws.length fn.ps then
   (exs (run F k) fn.body (ws.map aB++bf (fn.n-fn.ps) aC) ⟨h.n,h.n,h.os⟩).bind λfl h'=>match fl with|.nx _=>leave h .aI h'|.rt w=>leave h w h'|_=>.no
   else .no
  |none=>.no
open L2 PyProof.Rows PySem.Spec
noncomputable def Fz(K:aO)(H:Hp)(a:ah)(xs:List V):Prop:=
 (∃o,H a=aB (.bN o (.lst xs)))\/∃(o:Obj) (its:Array aa) (n:Nat),K.lookup a=aB o/\o.cls=.type "list"/\o.dict=aC/\o.data=.seq its n/\its.size<=sizeLine/\Vals xs its.toList
theorem Fz.sq{K:aO}{H:Hp}{a:ah}{xs:List V}(h:Fz K H a xs):cN K H a xs:=h.elim (λ⟨o,q⟩=>.inl (.inr ⟨o,q⟩)) .inr
mutual
inductive aM(K:aO)(m:Nat->ah)(n:Nat)(H:Hp):V->W->Prop
 |aI:aM K m n H .aI .aI
 |bl (b:Bool):aM K m n H (.bl b) (.bl b)
 |int (i:Int):aM K m n H (.int i) (.int i)
 |str (x:Str):aM K m n H (.str x) (.str x)
 |tup {a:ah} {vs:List V} {ws:List W}:bZ K H a vs->aF K m n H vs ws->aM K m n H (.ref a) (.tup ws)
 |fz {a:ah} {vs:List V} {ws:List W}:Fz K H a vs->aF K m n H vs ws->aM K m n H (.ref a) (.fz ws)
 |ref {i:Nat}:i<n->aM K m n H (.ref (m i)) (.ref i)
inductive aF(K:aO)(m:Nat->ah)(n:Nat)(H:Hp):List V->List W->Prop
 |nil:aF K m n H [] []
 |cons {v:V} {w:W} {vs:List V} {ws:List W}:aM K m n H v w->aF K m n H vs ws->aF K m n H (v::vs) (w::ws)
end
inductive aS(K:aO)(m:Nat->ah)(n:Nat)(H:Hp):List (Key×V)->List (Key×W)->Prop
 |nil:aS K m n H [] []
 |cons {k:Key} {v:V} {w:W} {vs:List (Key×V)} {ws:List (Key×W)}:aM K m n H v w->aS K m n H vs ws->aS K m n H ((k,v)::vs) ((k,w)::ws)
noncomputable def fW(K:aO)(m:Nat->ah)(n:Nat)(H:Hp)(a:ah):VO->Prop|.lst ws=>∃vs,H a=aB (.lst vs)/\aF K m n H vs ws|.dk kvs=>∃kv,Rd H a (.dK kv)/\aS K m n H kv kvs|.dm kvs=>∃kv,H a=aB (.dK kv)/\aS K m n H kv kvs|.dt ks ws=>∃xs:DX,(H a=aB (mJ xs a)\/(xs=[]/\H a=aB (.dK [])))/\aW dX ks=aB (xs.map (·.1))/\aF K m n H (xs.map λx=>.ref x.2.1) ks/\aF K m n H (xs.map λx=>x.2.2) ws
structure Rel(K:aO)(m:Nat->ah)(h:VH)(H:Hp):Prop where
 obj:∀i,i<h.n->∃o,h.get i=aB o/\fW K m h.n H (m i) o
 inj:∀i j,i<h.n->j<h.n->m i=m j->i=j
 len:h.os.length=h.n
structure bV(m:Nat->ah)(n:Nat)(H:Hp)(m':Nat->ah)(n':Nat)(H':Hp):Prop where
 le:n<=n'
 same:∀i,i<n->m' i=m i
 new:∀i,n<=i->i<n'->H (m' i)=aC
 apart:∀i j,n<=i->i<n'->j<n->m' i≠m' j
 tup:∀b vs,H b=aB (.tup vs)->H' b=aB (.tup vs)
 bN:∀b o u,H b=aB (.bN o u)->H' b=aB (.bN o u)
 keep:∀b o,(∀i,i<n->m i≠b)->H b=aB o->H' b=aB o
section
variable{K:aO}{m m' m1 m2:Nat->ah}{n n' n1 n2:Nat}{h h':VH}{H H' H1 H2:Hp}
theorem bV.refl:bV m n H m n H:=⟨bq _,λ_ _=>rfl,λi a b=>absurd b (jM.mpr a),λi j a b=>absurd b (jM.mpr a),λ_ _ q=>q,λ_ _ _ q=>q,λ_ _ _ q=>q⟩
theorem bV.trans(a:bV m n H m1 n1 H1)(b:bV m1 n1 H1 m2 n2 H2):bV m n H m2 n2 H2 where
 le:=iY a.le b.le
 same:=λi hi=>(b.same i (dS hi a.le)).trans (a.same i hi)
 new:=λi hi hi2=>by
  by_cases hc:i<n1;rw[b.same i hc];exact a.new i hi hc;have hc:=jM.mp hc;cases q:H (m2 i)with
  |none=>rfl
  |some o=>
   have q1:H1 (m2 i)=aC:=b.new i hc hi2;rw[a.keep _ o (λj hj z=>b.apart i j hc hi2 (dS hj a.le) ((b.same j (dS hj a.le)).trans ((a.same j hj).trans z)).symm) q]at q1;cases q1
 apart:=λi j hi hi2 hj=>by
  by_cases hc:i<n1;rw[b.same i hc,b.same j (dS hj a.le)];exact a.apart i j hi hc hj;exact b.apart i j (jM.mp hc) hi2 (dS hj a.le)
 tup:=λc vs q=>b.tup c vs (a.tup c vs q)
 bN:=λc o u q=>b.bN c o u (a.bN c o u q)
 keep:=λc o hc q=>b.keep c o (λi hi=>by
  by_cases hl:i<n;rw[a.same i hl];exact hc i hl;intro z;have:=a.new i (jM.mp hl) hi;rw[z,q]at this;cases this) (a.keep c o hc q)
theorem bV.VN{a:ah}{vs:List V}(s:bV m n H m' n' H')(q:bZ K H a vs):bZ K H' a vs:=by rcases q with(q|⟨o,q⟩)|q;exact .inl (.inl (s.tup _ _ q));exact .inl (.inr ⟨o,s.bN _ _ _ q⟩);exact .inr q
theorem bV.fz{a:ah}{vs:List V}(s:bV m n H m' n' H')(q:Fz K H a vs):Fz K H' a vs:=by rcases q with⟨o,q⟩|q;exact .inl ⟨o,s.bN _ _ _ q⟩;exact .inr q
mutual
theorem aM.stp(s:bV m n H m' n' H'):∀{v:V} {w:W},aM K m n H v w->aM K m' n' H' v w|_,_,.aI=>.aI|_,_,.bl b=>.bl b|_,_,.int b=>.int b|_,_,.str b=>.str b|_,_,.tup q r=>.tup (s.VN q) (aF.stp s r)|_,_,.fz q r=>.fz (s.fz q) (aF.stp s r)|_,_,.ref (i:=i) q=>by rw[<-s.same i q];exact .ref (dS q s.le)
theorem aF.stp(s:bV m n H m' n' H'):∀{vs:List V} {ws:List W},aF K m n H vs ws->aF K m' n' H' vs ws|_,_,.nil=>.nil|_,_,.cons q r=>.cons (aM.stp s q) (aF.stp s r)
end
theorem aS.stp(s:bV m n H m' n' H'):∀{vs:List (Key×V)} {ws:List (Key×W)},aS K m n H vs ws->aS K m' n' H' vs ws|_,_,.nil=>.nil|_,_,.cons q r=>.cons (q.stp s) (aS.stp s r)
theorem aF.length:∀{vs:List V} {ws:List W},aF K m n H vs ws->vs.length=ws.length|_,_,.nil=>rfl|_,_,.cons _ r=>by rw[dG,dG,aF.length r]
theorem aF.get:∀{vs:List V} {ws:List W} {i:Nat} {w:W},aF K m n H vs ws->ws[i]?=aB w->∃v,vs[i]?=aB v/\aM K m n H v w
 |_,_,_,_,.nil,e=>by simp at e
 |_,_,0,_,.cons q _,e=>by simp at e;subst e;exact⟨_,rfl,q⟩
 |_,_,i+1,w,.cons _ r,e=>by
  obtain⟨v,h1,h2⟩:=aF.get (i:=i) (w:=w) r (by simpa using e);exact⟨v,by simpa using h1,h2⟩
theorem aF.append:∀{vs us:List V} {ws zs:List W},aF K m n H vs ws->aF K m n H us zs->aF K m n H (vs++us) (ws++zs)|_,_,_,_,.nil,r=>r|_,_,_,_,.cons q r,t=>.cons q (aF.append r t)
theorem aF.drop:∀(k:Nat) {vs:List V} {ws:List W},aF K m n H vs ws->aF K m n H (vs.drop k) (ws.drop k)|0,_,_,r=>r|_+1,_,_,.nil=>.nil|k+1,_,_,.cons _ r=>aF.drop k r
theorem aF.take:∀(k:Nat) {vs:List V} {ws:List W},aF K m n H vs ws->aF K m n H (vs.take k) (ws.take k)|0,_,_,r=>.nil|_+1,_,_,.nil=>.nil|k+1,_,_,.cons q r=>.cons q (aF.take k r)
theorem aF.set{v:V}{w:W}(q:aM K m n H v w):∀(k:Nat) {vs:List V} {ws:List W},aF K m n H vs ws->aF K m n H (vs.set k v) (ws.set k w)|_,_,_,.nil=>.nil|0,_,_,.cons _ r=>.cons q r|k+1,_,_,.cons p r=>.cons p (aF.set q k r)
theorem fW.stp{a:ah}{o:VO}(s:bV m n H m' n' H')(e:H' a=H a)(q:fW K m n H a o):fW K m' n' H' a o:=by
 cases o with|lst ws=>obtain⟨vs,h1,h2⟩:=q;exact⟨vs,e.trans h1,h2.stp s⟩|dk ws=>obtain⟨vs,h1,h2⟩:=q;exact⟨vs,h1.imp (λz=>e.trans z) λ⟨o,z⟩=>⟨o,e.trans z⟩,h2.stp s⟩|dm ws=>obtain⟨vs,h1,h2⟩:=q;exact⟨vs,e.trans h1,h2.stp s⟩|dt ks ws=>obtain⟨xs,h1,h0,h2,h3⟩:=q;exact⟨xs,h1.imp (λz=>e.trans z) λ⟨o,z⟩=>⟨o,e.trans z⟩,h0,h2.stp s,h3.stp s⟩
theorem fW.some{a:ah}{o:VO}(q:fW K m n H a o):∃u,H a=aB u:=by
 cases o with
 |lst ws=>obtain⟨vs,h1,h2⟩:=q;exact⟨_,h1⟩
 |dk ws=>
  obtain⟨vs,h1,h2⟩:=q;rcases h1 with h1|⟨o,h1⟩<;>exact⟨_,h1⟩
 |dm ws=>obtain⟨vs,h1,h2⟩:=q;exact⟨_,h1⟩
 |dt ks ws=>
  obtain⟨xs,h1,_⟩:=q;rcases h1 with h1|⟨_,h1⟩<;>exact⟨_,h1⟩
theorem fD{i j:Nat}:Nat.blt i j=true↔i<j:=by unfold Nat.blt;rw[qA];exact Iff.rfl
theorem cK{i:Nat}{o:VO}(q:h.get i=aB o):i<h.n:=by unfold VH.get at q;split at q;rename_i z;exact fD.mp z;cases q
theorem Rel.at_(r:Rel K m h H){i:Nat}{o:VO}(q:h.get i=aB o):fW K m h.n H (m i) o:=by obtain⟨o',h1,h2⟩:=r.obj i (cK q);rw[q]at h1;cases h1;exact h2
theorem Rel.lst(r:Rel K m h H){i:Nat}{ws:List W}(q:h.get i=aB (.lst ws)):∃vs,H (m i)=aB (.lst vs)/\aF K m h.n H vs ws:=r.at_ q
theorem Rel.dk(r:Rel K m h H){i:Nat}{ws:List (Key×W)}(q:h.get i=aB (.dk ws)):∃vs,Rd H (m i) (.dK vs)/\aS K m h.n H vs ws:=r.at_ q
theorem Rel.dm(r:Rel K m h H){i:Nat}{ws:List (Key×W)}(q:h.get i=aB (.dm ws)):∃vs,H (m i)=aB (.dK vs)/\aS K m h.n H vs ws:=r.at_ q
theorem Rel.dt(r:Rel K m h H){i:Nat}{ks ws:List W}(q:h.get i=aB (.dt ks ws)):∃xs:DX,(H (m i)=aB (mJ xs (m i))\/(xs=[]/\H (m i)=aB (.dK [])))/\aW dX ks=aB (xs.map (·.1))/\aF K m h.n H (xs.map λx=>.ref x.2.1) ks/\aF K m h.n H (xs.map λx=>x.2.2) ws:=r.at_ q
theorem gE{i:Nat}{o:VO}(hi:i<h.n):(h.new o).get i=h.get i:=by
 unfold VH.get VH.new;have h1:Nat.blt i (h.n+1)=true:=fD.mpr (tD hi);have h2:Nat.blt i h.n=true:=fD.mpr hi;simp only[h1,h2,b9];have:h.n+1-1-i=(h.n-1-i)+1:=by lia
 rw[this];rfl
theorem cY{o:VO}:(h.new o).get h.n=aB o:=by
 unfold VH.get VH.new;have h1:Nat.blt h.n (h.n+1)=true:=fD.mpr (jL _);simp only[h1,b9];have:h.n+1-1-h.n=0:=by lia
 rw[this];rfl
theorem Rel.alloc(r:Rel K m h H){p:ah}{o:VO}{u:HO}(hp:H p=aC)(hu:∀t,u≠.tup t)
 (ho:bV m h.n H (λi=>if i=h.n then p else m i) (h.n+1) (upd H p u)->fW K (λi=>if i=h.n then p else m i) (h.n+1) (upd H p u) p o) :
 bV m h.n H (λi=>if i=h.n then p else m i) (h.n+1) (upd H p u)/\Rel K (λi=>if i=h.n then p else m i) (h.new o) (upd H p u):=by
 have tr:∀i,i<h.n->m i≠p:=λi hi z=>by
  obtain⟨o',_,h2⟩:=r.obj i hi;obtain⟨u',h3⟩:=h2.some;rw[z,hp]at h3;cases h3
 have st:bV m h.n H (λi=>if i=h.n then p else m i) (h.n+1) (upd H p u):=by
  refine⟨ly _,λi hi=>by simp only[if_neg (fB hi)],λi hi hi2=>?_,λi j hi hi2 hj=>?_,λb vs q=>?_,λb o u q=>?_,λb o _ q=>?_⟩;have:i=h.n:=by lia
  subst this;simp only[b9];exact hp;have:i=h.n:=by lia
  subst this;simp only[b9,if_neg (fB hj)];exact(tr j hj).symm;rw[bQ (gj q hp)];exact q;rw[bQ (gj q hp)];exact q;rw[bQ (gj q hp)];exact q
 refine⟨st,⟨λi hi=>?_,λi j hi hj z=>?_,?_⟩⟩;have hi:i<h.n+1:=hi;by_cases e:i=h.n;subst e;exact⟨o,cY,by simp only[b9];exact ho st⟩;have hl:i<h.n:=by lia
 obtain⟨o',h1,h2⟩:=r.obj i hl;refine⟨o',(gE hl).trans h1,?_⟩;simp only[if_neg e];exact fW.stp st (bQ (tr i hl)) h2;have hi:i<h.n+1:=hi;have hj:j<h.n+1:=hj;by_cases e:i=h.n;by_cases e2:j=h.n;lia;simp only[if_pos e,if_neg e2]at z;exact absurd z.symm (tr j (by lia));by_cases e2:j=h.n;simp only[if_neg e,if_pos e2]at z;exact absurd z (tr i (by lia));simp only[if_neg e,if_neg e2]at z;exact r.inj i j (by lia) (by lia) z;show(o::h.os).length=h.n+1;rw[dG,r.len]
theorem VP(r:Rel K m h H){i:Nat}{o:VO}(hi:i<h.n):(h.set i o).get i=aB o:=by unfold VH.get VH.set;have h1:Nat.blt i h.n=true:=fD.mpr hi;simp only[h1,b9];rw[xK];rw[r.len];lia
theorem Ie{i j:Nat}{o:VO}(hi:i<h.n)(hj:j≠i):(h.set i o).get j=h.get j:=by
 unfold VH.get VH.set;by_cases h1:j<h.n;have h2:Nat.blt j h.n=true:=fD.mpr h1;simp only[h2,b9];rw[zg];lia;have h2:Nat.blt j h.n=false:=by
  cases q:Nat.blt j h.n with|false=>rfl|true=>exact absurd (fD.mp q) h1
 simp only[h2,eW,dF]
theorem Rel.write(r:Rel K m h H){i:Nat}{o:VO}{u u0:HO}(hi:i<h.n)(h0:H (m i)=aB u0)(hn:∀t,u0≠.tup t)(hf:∀o t,u0≠.bN o t)
 (ho:bV m h.n H m h.n (upd H (m i) u)->fW K m h.n (upd H (m i) u) (m i) o) :
 bV m h.n H m h.n (upd H (m i) u)/\Rel K m (h.set i o) (upd H (m i) u):=by
 have st:bV m h.n H m h.n (upd H (m i) u):=by refine⟨bq _,λ_ _=>rfl,λj a b=>absurd b (jM.mpr a),λj k a b=>absurd b (jM.mpr a),λb vs q=>?_,λb o t q=>?_,λb o nb q=>?_⟩;rw[bQ (dI q h0 (λz=>hn vs z.symm))];exact q;rw[bQ (dI q h0 (λz=>hf o t z.symm))];exact q;rw[bQ (nb i hi).symm];exact q
 refine⟨st,⟨λj hj=>?_,λa b ha hb=>r.inj a b ha hb,?_⟩⟩;have hj:j<h.n:=hj;by_cases e:j=i;subst e;exact⟨o,VP r hj,ho st⟩;obtain⟨o',h1,h2⟩:=r.obj j hj;exact⟨o',(Ie hi e).trans h1,fW.stp st (bQ λz=>e (r.inj j i hj hi z)) h2⟩;show(h.os.set _ o).length=h.n;rw[zh,r.len]
theorem Rel.more(r:Rel K m h H){p:ah}{u:HO}(hp:H p=aC):bV m h.n H m h.n (upd H p u)/\Rel K m h (upd H p u):=by
 have st:bV m h.n H m h.n (upd H p u):=by refine⟨bq _,λ_ _=>rfl,λj a b=>absurd b (jM.mpr a),λj k a b=>absurd b (jM.mpr a),λb vs q=>?_,λb o t q=>?_,λb o nb q=>?_⟩;rw[bQ (gj q hp)];exact q;rw[bQ (gj q hp)];exact q;rw[bQ (gj q hp)];exact q
 refine⟨st,⟨λj hj=>?_,r.inj,r.len⟩⟩;obtain⟨o',h1,h2⟩:=r.obj j hj;obtain⟨u',h3⟩:=h2.some;exact⟨o',h1,fW.stp st (bQ (gj h3 hp)) h2⟩
end
theorem VQ{α β:Type}{r:Res α}{f:α->VH->Res β}{b:β}{h':VH}(q:r.bind f=.ok b h'):∃a h1,r=.ok a h1/\f a h1=.ok b h':=by
 cases r with|ok a h=>exact⟨a,h,rfl,q⟩|ex x h=>cases q|no=>cases q
theorem cg{α β:Type}{r:Res α}{f:α->VH->Res β}{w:β}{h':VH}{P:Prop}(e:r.bind f=.ok w h')(k:∀x h1,r=.ok x h1->f x h1=.ok w h'->P):P:=by obtain⟨x,h1,a,b⟩:=VQ e;exact k x h1 a b
theorem of_ok{α:Type}{o:Option α}{h h':VH}{a:α}(q:Res.of o h=.ok a h'):o=aB a/\h'=h:=by
 cases o with|none=>cases q|some b=>cases q;exact⟨rfl,rfl⟩
structure Fr(K:aO)(m:Nat->ah)(n:Nat)(H:Hp)(σ:L2.St)(ρ:En):Prop where
 len:σ.length=ρ.length
 val:∀(i:Nat)(w:W),ρ[i]?=aB (aB w)->∃v,σ[i]?=aB (aB v)/\aM K m n H v w
noncomputable abbrev FE:=En->VH->Res W
noncomputable abbrev FS:=En->VH->Res Fl
noncomputable def iI(K:aO)(f:FE):TE:=λσ H Q=>∃ρ h m w h',Fr K m h.n H σ ρ/\Rel K m h H/\f ρ h=.ok w h'/\
 ∀v H' m',bV m h.n H m' h'.n H'->Rel K m' h' H'->aM K m' h'.n H' v w->Q v H'
noncomputable def gY(K:aO)(f:FE):TT:=λσ H Q=>∃ρ h m b h',Fr K m h.n H σ ρ/\Rel K m h H/\f ρ h=.ok (.bl b) h'/\
 ∀H' m',bV m h.n H m' h'.n H'->Rel K m' h' H'->Q b H'
noncomputable def mU(K:aO)(f:FE):TA:=λσ H Q=>∃ρ h m ws h',Fr K m h.n H σ ρ/\Rel K m h H/\f ρ h=.ok (.tup ws) h'/\
 ∀vs H' m',bV m h.n H m' h'.n H'->Rel K m' h' H'->aF K m' h'.n H' vs ws->Q vs H'
section
variable{K:aO}{m:Nat->ah}{σ:L2.St}{H:Hp}{P:Prop}{fa:FE}{ρ:En}{h h':VH}
theorem iI.el{Q:VK}(q:iI K fa σ H Q)(k:∀ρ h m w h',Fr K m h.n H σ ρ->Rel K m h H->fa ρ h=.ok w h'->(∀v H' m',bV m h.n H m' h'.n H'->Rel K m' h' H'->aM K m' h'.n H' v w->Q v H')->P):P:=by obtain⟨ρ,h,m,w,h',f,r,e,k'⟩:=q;exact k ρ h m w h' f r e k'
theorem iI.mk{Q:VK}{w:W}(f:Fr K m h.n H σ ρ)(r:Rel K m h H)(e:fa ρ h=.ok w h')(k:∀v H' m',bV m h.n H m' h'.n H'->Rel K m' h' H'->aM K m' h'.n H' v w->Q v H'):iI K fa σ H Q:=⟨ρ,h,m,w,h',f,r,e,k⟩
theorem gY.el{Q:Bool->Hp->Prop}(q:gY K fa σ H Q)(k:∀ρ h m b h',Fr K m h.n H σ ρ->Rel K m h H->fa ρ h=.ok (.bl b) h'->(∀H' m',bV m h.n H m' h'.n H'->Rel K m' h' H'->Q b H')->P):P:=by obtain⟨ρ,h,m,w,h',f,r,e,k'⟩:=q;exact k ρ h m w h' f r e k'
theorem gY.mk{Q:Bool->Hp->Prop}{b:Bool}(f:Fr K m h.n H σ ρ)(r:Rel K m h H)(e:fa ρ h=.ok (.bl b) h')(k:∀H' m',bV m h.n H m' h'.n H'->Rel K m' h' H'->Q b H'):gY K fa σ H Q:=⟨ρ,h,m,b,h',f,r,e,k⟩
theorem mU.el{Q:List V->Hp->Prop}(q:mU K fa σ H Q)(k:∀ρ h m ws h',Fr K m h.n H σ ρ->Rel K m h H->fa ρ h=.ok (.tup ws) h'->(∀vs H' m',bV m h.n H m' h'.n H'->Rel K m' h' H'->aF K m' h'.n H' vs ws->Q vs H')->P):P:=by obtain⟨ρ,h,m,w,h',f,r,e,k'⟩:=q;exact k ρ h m w h' f r e k'
theorem mU.mk{Q:List V->Hp->Prop}{ws:List W}(f:Fr K m h.n H σ ρ)(r:Rel K m h H)(e:fa ρ h=.ok (.tup ws) h')(k:∀vs H' m',bV m h.n H m' h'.n H'->Rel K m' h' H'->aF K m' h'.n H' vs ws->Q vs H'):mU K fa σ H Q:=⟨ρ,h,m,ws,h',f,r,e,k⟩
end
noncomputable abbrev SE(X:Cx)(e:ao)(f:FE):Prop:=PE X e (iI X.K f)
noncomputable abbrev ST(X:Cx)(e:ao)(f:FE):Prop:=PT X e (gY X.K f)
noncomputable abbrev SW(X:Cx)(e:ao)(f:FE):Prop:=PW X e (gY X.K f)
noncomputable abbrev SA(X:Cx)(es:List ao)(f:FE):Prop:=PA X es (mU X.K f)
theorem _root_.L2.PE.imp{X:Cx}{e:ao}{t t':TE}(h:PE X e t)(k:∀σ H Q,t' σ H Q->t σ H Q):PE X e t':=λpins s σ H Q I q=>h pins s σ H Q I (k σ H Q q)
theorem _root_.L2.PT.imp{X:Cx}{e:ao}{t t':TT}(h:PT X e t)(k:∀σ H Q,t' σ H Q->t σ H Q):PT X e t':=λpins s σ H Q I q=>h pins s σ H Q I (k σ H Q q)
theorem _root_.L2.PW.imp{X:Cx}{e:ao}{t t':TT}(h:PW X e t)(k:∀σ H Q,t' σ H Q->t σ H Q):PW X e t':=λwh pins s σ H Q I q=>h wh pins s σ H Q I (k σ H Q q)
theorem _root_.L2.PA.imp{X:Cx}{es:List ao}{t t':TA}(h:PA X es t)(k:∀σ H Q,t' σ H Q->t σ H Q):PA X es t':=λp pins s σ H Q I q=>h p pins s σ H Q I (k σ H Q q)
theorem _root_.L2.PS.imp{X:Cx}{st:aq}{t t':TS}(h:PS X st t)(k:∀D σ H,t' D σ H->t D σ H):PS X st t':=λpins s σ H D I q=>h pins s σ H D I (k D σ H q)
theorem _root_.L2.kE.imp{X:Cx}{st:List aq}{t t':TS}(h:kE X st t)(k:∀D σ H,t' D σ H->t D σ H):kE X st t':=λpins s σ H D I q=>h pins s σ H D I (k D σ H q)
section
variable{K:aO}{m m':Nat->ah}{n n':Nat}{h h':VH}{H H':Hp}{σ:L2.St}{ρ:En}
theorem Fr.stp(f:Fr K m n H σ ρ)(s:bV m n H m' n' H'):Fr K m' n' H' σ ρ:=⟨f.len,λi w e=>let⟨v,h1,h2⟩:=f.val i w e;⟨v,h1,h2.stp s⟩⟩
theorem Fr.set(f:Fr K m n H σ ρ){v:V}{w:W}(q:aM K m n H v w)(i:Nat):Fr K m n H (σ.set i (aB v)) (ρ.set i (aB w)):=by refine⟨by rw[zh,zh];exact f.len,λj w' e=>?_⟩;by_cases hj:i=j;subst hj;by_cases hl:i<ρ.length;rw[xK hl]at e;cases e;exact⟨v,by rw[xK (by rw[f.len];exact hl)],q⟩;rw[qp (by rw[zh];lia)]at e;cases e;rw[zg hj]at e;obtain⟨v',h1,h2⟩:=f.val j w' e;exact⟨v',by rw[zg hj];exact h1,h2⟩
noncomputable def aU(K:aO)(m:Nat->ah)(n:Nat)(H:Hp)(w:W)(h':VH)(Q:VK):Prop:=∀v H' m',bV m n H m' h'.n H'->Rel K m' h' H'->aM K m' h'.n H' v w->Q v H'
theorem aU.here{w:W}{Q:VK}(k:aU K m h.n H w h Q)(r:Rel K m h H){v:V}(q:aM K m h.n H v w):Q v H:=k v H m .refl r q
theorem aU.list{ws:List W}{vs:List V}{Q:VK}(k:aU K m h.n H (.ref h.n) (h.new (.lst ws)) Q)(r:Rel K m h H)(q:aF K m h.n H vs ws){p:ah}(hp:H p=aC):Q (.ref p) (upd H p (.lst vs)):=by obtain⟨st,r'⟩:=r.alloc (o:=.lst ws) (u:=.lst vs) hp (λ_ z=>nomatch z) (λst=>⟨vs,gi,q.stp st⟩);refine k _ _ _ st r' ?_;have:aM K (λi=>if i=h.n then p else m i) (h.n+1) (upd H p (.lst vs)) (.ref ((λi=>if i=h.n then p else m i) h.n)) (.ref h.n):=.ref (jL _);simp only[b9]at this;exact this
theorem aU.A2{ks ws:List W}{xs:DX}{u:HO}{Q:VK}(k:aU K m h.n H (.ref h.n) (h.new (.dt ks ws)) Q)(r:Rel K m h H){p:ah}(hp:H p=aC)(hu:u=mJ xs p\/(xs=[]/\u=.dK []))(q0:aW dX ks=aB (xs.map (·.1)))(q1:aF K m h.n H (xs.map λx=>.ref x.2.1) ks)(q2:aF K m h.n H (xs.map λx=>x.2.2) ws):Q (.ref p) (upd H p u):=by obtain⟨st,r'⟩:=r.alloc (o:=.dt ks ws) (u:=u) hp (λt z=>by rcases hu with e|⟨_,e⟩<;> (rw[e]at z;exact nomatch z)) (λst=>⟨xs,hu.imp (λe=>by rw[gi,e]) λ⟨a,e⟩=>⟨a,by rw[gi,e]⟩,q0,q1.stp st,q2.stp st⟩);refine k _ _ _ st r' ?_;have:aM K (λi=>if i=h.n then p else m i) (h.n+1) (upd H p u) (.ref ((λi=>if i=h.n then p else m i) h.n)) (.ref h.n):=.ref (jL _);simp only[b9]at this;exact this
theorem aU.tuple{ws:List W}{vs:List V}{Q:VK}(k:aU K m h.n H (.tup ws) h Q)(r:Rel K m h H)(q:aF K m h.n H vs ws){p:ah}(hp:H p=aC):Q (.ref p) (upd H p (.tup vs)):=by obtain⟨st,r'⟩:=r.more (u:=.tup vs) hp;exact k _ _ _ st r' (.tup (bZ.of gi) (q.stp st))
theorem M9{fa:FE}{g:W->VH->Res W}{G:V->Hp->VK->Prop}
 (hG:∀(m:Nat->ah)(h:VH)(H:Hp)(v:V)(x w:W)(h':VH)(Q:VK),Rel K m h H->aM K m h.n H v x->g x h=.ok w h'->aU K m h.n H w h' Q->G v H Q) {Q:VK}
 (q:iI K (λρ h=>(fa ρ h).bind λx h=>g x h) σ H Q):iI K fa σ H λv H1=>G v H1 Q:=by
 refine q.el λρ h m w h' f r e k=>?_;refine cg e λx h1 e1 e2=>?_;exact(.mk f r e1 λv H1 m1 s1 r1 q1=>hG m1 h1 H1 v x w h' Q r1 q1 e2 λv' H' m' s' r' q'=>k v' H' m' (s1.trans s') r' q')
theorem EU{fa fb:FE}{g:W->W->VH->Res W}{G:V->V->Hp->VK->Prop}
 (hG:∀(m:Nat->ah)(h:VH)(H:Hp)(v u:V)(x y w:W)(h':VH)(Q:VK),Rel K m h H->aM K m h.n H v x->aM K m h.n H u y->g x y h=.ok w h'->aU K m h.n H w h' Q->G v u H Q) {Q:VK}
 (q:iI K (λρ h=>(fa ρ h).bind λx h=>(fb ρ h).bind λy h=>g x y h) σ H Q):iI K fa σ H λv H1=>iI K fb σ H1 λu H2=>G v u H2 Q:=by
 refine q.el λρ h m w h' f r e k=>?_;refine cg e λx h1 e1 e2=>?_;refine cg e2 λy h2 e3 e4=>?_;refine(.mk f r e1 λv H1 m1 s1 r1 q1=>(.mk (f.stp s1) r1 e3 λu H2 m2 s2 r2 q2=>?_));exact hG m2 h2 H2 v u x y w h' Q r2 (q1.stp s2) q2 e4 λv' H' m' s' r' q'=>k v' H' m' ((s1.trans s2).trans s') r' q'
theorem yv{fa:FE}{g:List W->VH->Res W}{G:List V->Hp->VK->Prop}
 (hG:∀(m:Nat->ah)(h:VH)(H:Hp)(vs:List V)(xs:List W)(w:W)(h':VH)(Q:VK),Rel K m h H->aF K m h.n H vs xs->g xs h=.ok w h'->aU K m h.n H w h' Q->G vs H Q) {Q:VK}
 (q:iI K (λρ h=>(fa ρ h).bind λy h=>match y with|.tup ys=>g ys h|_=>.no) σ H Q):mU K fa σ H λvs H1=>G vs H1 Q:=by
 refine q.el λρ h m w h' f r e k=>?_;refine cg e λx h1 e1 e2=>?_;cases x with|tup ys=>exact(.mk f r e1 λvs H1 m1 s1 r1 q1=>hG m1 h1 H1 vs ys w h' Q r1 q1 e2 λv' H' m' s' r' q'=>k v' H' m' (s1.trans s') r' q')|_=>cases e2
theorem Na{f:FE}{Q:Bool->Hp->Prop}(q:gY K f σ H Q):iI K f σ H λx H'=>∃k,x=.bl k/\Q k H':=by refine q.el λρ h m b h' f r e k=>?_;exact(.mk f r e λv H' m' s' r' q'=>by cases q';exact⟨b,rfl,k H' m' s' r'⟩)
end
section
variable{X:Cx}{a b c e:ao}{es:List ao}{fa fb fc:FE}{pos:Pos}
theorem VR{i:Nat}{x:Str}{pos:Pos}(hN:X.N[i]?=aB x)(hv:yh X.env.scope x)(hd:(x==("__debug__" : Str))=false)(hcd:(x==("__classdict__" : Str))=false):SE X (.Name x pos) (λρ h=>.of (ρ[i]?).join h):=
 (RK hN hv hd hcd).imp λσ H Q z9=>z9.el λρ h m w h' f r e k=>by
   obtain⟨e1,e2⟩:=of_ok e;subst e2;have e3:ρ[i]?=aB (aB w):=by
    cases q:ρ[i]? with|none=>rw[q]at e1;cases e1|some o=>rw[q]at e1;rw[<-e1];rfl
   obtain⟨v,h1,h2⟩:=f.val i w e3;exact⟨v,h1,k v H m .refl r h2⟩
theorem A3{w:W}{v:V}(h:PE X e (tC v))(hv:∀m n H,aM X.K m n H v w):SE X e (λ_ h=>.ok w h):=
 h.imp λσ H Q z9=>z9.el λρ h m w h' f r e k=>by cases e;exact k v H m .refl r (hv m h.n H)
theorem VS{i j pos}:SE X (.Constant (.int i) j pos) (λ_ h=>.ok (.int i) h):=A3 RL λ_ _ _=>.int i
theorem A4{i j pos}:SE X (.Constant (.bool i) j pos) (λ_ h=>.ok (.bl i) h):=A3 zG λ_ _ _=>.bl i
theorem VT{j pos}:SE X (.Constant .none j pos) (λ_ h=>.ok .aI h):=A3 RM λ_ _ _=>.aI
theorem VU{i j pos}:SE X (.Constant (.str i) j pos) (λ_ h=>.ok (.str i) h):=A3 RN λ_ _ _=>.str i
theorem Ig:SA X [] (λ_ h=>.ok (.tup []) h):=Ez.imp λσ H Q z9=>z9.el λρ h m ws h' f r e k=>by cases e;exact k [] H m .refl r .nil
theorem EV(ha:SE X e fa)(hr:SA X es fb)(hs:starEach (e::es) X.env=(false,eval e X.env)::starEach es X.env) :
 SA X (e::es) (λρ h=>(fa ρ h).bind λx h=>(fb ρ h).bind λy h=>match y with|.tup ys=>.ok (.tup (x::ys)) h|_=>.no):=
 (Ac ha hr hs).imp λσ H Q z9=>z9.el λρ h m ws h' f r e k=>by
   refine cg e λx h1 e1 e2=>?_;refine cg e2 λy h2 e3 e4=>?_;cases y with
   |tup ys=>
    cases e4;exact(.mk f r e1 λv H1 m1 s1 r1 q1=>(.mk (f.stp s1) r1 e3 λvs H2 m2 s2 r2 q2=>k _ H2 m2 (s1.trans s2) r2 (.cons (q1.stp s2) q2)))
   |_=>cases e4
theorem Nb{k:Nat}(h:Nat.ble k 1000):k<=sizeLine:=tE (MB (lu h))
theorem VW{x1:Nat}(ha:SA X es fa):SE X (.Tuple es x1 pos) (λρ h=>(fa ρ h).bind λy h=>match y with|.tup ys=>(if Nat.ble ys.length 1000 then .ok (.tup ys) h else .no)|_=>.no):=
 (S9 ha).imp λσ H Q q=>yv (g:=λys h=>if Nat.ble ys.length 1000 then .ok (.tup ys) h else .no) (G:=λxs H1 Q=>xs.length<=sizeLine/\∀p,H1 p=aC->Q (.ref p) (upd H1 p (.tup xs)))
   (λm h H vs xs w h' Q r q e k=>by
     split at e;rename_i hl;cases e;exact⟨by rw[q.length];exact Nb hl,λp hp=>aU.tuple k r q hp⟩;cases e) q
theorem VX(ha:SA X es fa):SE X (.List es pos) (λρ h=>(fa ρ h).bind λy h=>match y with|.tup ys=>(if Nat.ble ys.length 1000 then .ok (.ref h.n) (h.new (.lst ys))else .no)|_=>.no):=
 (Tc ha).imp λσ H Q q=>yv (g:=λys h=>if Nat.ble ys.length 1000 then .ok (.ref h.n) (h.new (.lst ys))else .no) (G:=λxs H1 Q=>xs.length<=sizeLine/\∀p,H1 p=aC->Q (.ref p) (upd H1 p (.lst xs)))
   (λm h H vs xs w h' Q r q e k=>by
     split at e;rename_i hl;cases e;exact⟨by rw[q.length];exact Nb hl,λp hp=>aU.list k r q hp⟩;cases e) q
noncomputable def A5(K:aO)(r:R2)(g:W->W->VH->Res W):Prop:=∀(m:Nat->ah) (h:VH) (H:Hp) (v u:V) (x y w:W) (h':VH) (Q:VK),Rel K m h H->aM K m h.n H v x->aM K m h.n H u y->g x y h=.ok w h'->aU K m h.n H w h' Q->r v u H Q
theorem A6{O:Operator}{r:R2}{g:W->W->VH->Res W}(ho:dW X (binaryOp O) r)(hg:A5 X.K r g)(ha:SE X a fa)(hb:SE X b fb):SE X (.BinOp a O b pos) (λρ h=>(fa ρ h).bind λx h=>(fb ρ h).bind λy h=>g x y h):=
 (zT ho ha hb).imp λσ H Q q=>EU (G:=r) hg q
noncomputable def A7:Operator->Option Op|.Add=>aB .add|.Sub=>aB .sub|.Mult=>aB .mul|.FloorDiv=>aB .fdiv|.Mod=>aB .mod|.Pow=>aB .pow|_=>aC
noncomputable def cI:Op->Int->Int->Prop|.mul=>qS|.fdiv=>qQ|.mod=>λ_ j=>0<j|.shl=>vF|.pow=>vF|_=>λ_ _=>True
noncomputable def gI:Op->Int->Int->Int|.add=>(· + ·)|.sub=>(· - ·)|.mul=>(· * ·)|.fdiv=>(· / ·)|.mod=>(· % ·)|.shl=>λi j=>i*2 ^ j.toNat|.pow=>λi j=>i ^ j.toNat
noncomputable def rX(K:aO):Op->R2|.add=>Ar|.mul=>As|_=>λ_ _ _ _=>False
noncomputable def rB(K:aO)(o:Op):R2:=λx y H Q=>rI (cI o) (λi j=>.int (gI o i j)) x y H Q\/rX K o x y H Q
theorem yw{f:aa->aa->Sem aa}{r r':R2}(h:dW X f r)(k:∀x y H Q,r' x y H Q->r x y H Q):dW X f r':=λpins s σ H x y v u Q I rx ry q=>h pins s σ H x y v u Q I rx ry (k _ _ _ _ q)
theorem A8{O:Operator}{o:Op}(e:A7 O=aB o):dW X (binaryOp O) (rB X.K o):=by
 have tr:∀{g:Int->Int->V}{x y H Q},rI (λ_ _=>True) g x y H Q->mz g x y H Q:=λ⟨i,j,h1,h2,_,h3⟩=>⟨i,j,h1,h2,h3⟩
 cases O<;>cases e;exact yw (Sz.or TZ) λx y H Q q=>q.elim (λz=>.inl (tr z)) .inr;exact yw SD λx y H Q q=>q.elim (λz=>tr z) λz=>z.elim;exact yw (SG.or T4) λx y H Q q=>q;exact yw SI λx y H Q q=>q.elim id λz=>z.elim;exact yw SJ λx y H Q q=>q.elim id λz=>z.elim;exact yw SH λx y H Q q=>q.elim id λz=>z.elim
theorem Nc{i:Int}(h:nu i):-(2 ^ 64)<i/\i<2 ^ 64:=by unfold nu at h;rw[bM]at h;exact⟨jP h.1,jP h.2⟩
theorem VY{o:Op}{i j z:Int}(e:eF o i j=aB z):cI o i j/\z=gI o i j:=by cases o<;>simp only[eF]at e;cases e;exact⟨trivial,rfl⟩;cases e;exact⟨trivial,rfl⟩;split at e;rename_i hc;cases e;rw[xS]at hc;exact⟨hc.elim (λq=>.inl (Nc q)) (λq=>.inr (Nc q)),rfl⟩;cases e;split at e;rename_i hc;cases e;rw[bM]at hc;exact⟨⟨jP hc.1,jP hc.2⟩,rfl⟩;cases e;split at e;rename_i hc;cases e;exact⟨(jP hc:0<j),rfl⟩;cases e;split at e;rename_i hc;cases e;rw[bM,bM]at hc;exact⟨⟨jP hc.1.1,jP hc.1.2,jP hc.2⟩,rfl⟩;cases e;split at e;rename_i hc;cases e;rw[bM,bM]at hc;exact⟨⟨jP hc.1.1,jP hc.1.2,jP hc.2⟩,rfl⟩;cases e
theorem Ih{i:Int}(h:fits i):-(2 ^ 62)<=i/\i<2 ^ 62:=by unfold fits at h;rw[bM]at h;exact⟨jP h.1,jP h.2⟩
theorem VZ{o:Op}{xs zs:List W}{k:Int}(e:oh o xs k=aB zs):o=.mul/\(-(2 ^ 62)<=k/\k<2 ^ 62)/\xs.length*k.toNat<=sizeLine/\zs=(bf k.toNat xs).flatten:=by unfold oh at e;split at e;split at e;rename_i hc;cases e;rw[bM]at hc;exact⟨rfl,Ih hc.1,lu hc.2,rfl⟩;cases e;cases e
theorem aF.rep{K:aO}{m:Nat->ah}{n:Nat}{H:Hp}{vs:List V}{ws:List W}(q:aF K m n H vs ws):∀k:Nat,aF K m n H (bf k vs).flatten (bf k ws).flatten
 |0=>.nil
 |k+1=>by
  rw[qq,qq,xO,xO];exact q.append (aF.rep q k)
theorem V0{K:aO}(o:Op):A5 K (rB K o) (ck o):=by
 intro m h H v u x y w h' Q r qv qu e k;unfold ck at e;split at e;rename_i i j;obtain⟨e,rfl⟩:=of_ok e;cases qv;cases qu;cases q:eF o i j with
 |none=>rw[q]at e;cases e
 |some z=>
  rw[q]at e;cases e;obtain⟨h1,rfl⟩:=VY q;exact .inl ⟨i,j,rfl,rfl,h1,aU.here k r (.int _)⟩
 rename_i i kk;split at e;rename_i xs hx;split at e;rename_i zs q;cases e;obtain⟨rfl,⟨k1,k2⟩,hz,rfl⟩:=VZ q;obtain⟨va,pa,ra⟩:=r.lst hx;cases qv;cases qu;exact .inr ⟨m i,kk,va,rfl,rfl,pa,by lia,by lia,by rw[ra.length];exact hz,λp hp=>aU.list k r (ra.rep _) hp⟩;cases e;cases e
 .rename_i i j
  split at e
  .rename_i xs ys hx hy
   split at e
   .rename_i zs q
    cases e;cases o<;>simp only[Ic]at q;split at q;rename_i hc;cases q;obtain⟨va,pa,ra⟩:=r.lst hx;obtain⟨vb,pb,rb⟩:=r.lst hy;cases qv;cases qu;exact .inr ⟨m i,m j,va,vb,rfl,rfl,pa,pb,by rw[ra.length,rb.length];exact lu hc,λp hp=>aU.list k r (ra.append rb) hp⟩;cases q
    all_goals cases q
   cases e
  cases e
 cases e
end
section
variable{K:aO}{m:Nat->ah}{h:VH}{H:Hp}
theorem A9{f:W->Option aA}(ih:∀(w:W) (d:aA) (v:V),f w=aB d->aM K m h.n H v w->Rp K (λ_=>False) H v d):∀{ws:List W} {ds:List aA} {vs:List V},aW f ws=aB ds->aF K m h.n H vs ws->mE K (λ_=>False) H vs ds
 |[],ds,_,e,.nil=>by cases e;exact .nil
 |w::ws,ds,_,e,.cons q r=>by
  unfold aW at e;split at e;rename_i d hd;split at e;rename_i bs hb;cases e;exact .cons (ih w d _ hd q) (A9 ih hb r);cases e;cases e
theorem iJ(r:Rel K m h H):∀(n:Nat) (w:W) (d:aA) (v:V),toD h n w=aB d->aM K m h.n H v w->Rp K (λ_=>False) H v d
 |0,_,_,_,e,_=>by cases e
 |n+1,w,d,v,e,q=>by
  cases q with
  |aI=>cases e;exact .aI
  |bl b=>cases e;exact .bl b
  |int b=>cases e;exact .int b
  |str b=>cases e;exact .str b
  | @tup a vs ws sq rs=>
   simp only[toD]at e;cases z:aW (toD h n) ws with|none=>rw[z]at e;cases e|some ds=>rw[z]at e;cases e;exact .tup sq (λz=>z) (A9 (iJ r n) z rs)
  | @fz a vs ws sq rs=>
   simp only[toD]at e;cases z:aW (toD h n) ws with|none=>rw[z]at e;cases e|some ds=>rw[z]at e;cases e;exact .lst sq.sq (λz=>z) (A9 (iJ r n) z rs)
  | @ref i hi=>
   simp only[toD]at e;cases g:h.get i with
   |none=>rw[g]at e;cases e
   |some o=>
    rw[g]at e;cases o with
    |dk _=>cases e
    |dm _=>cases e
    |dt _ _=>cases e
    |lst ws=>
     obtain⟨vs,h1,h2⟩:=r.lst g;simp only at e;cases z:aW (toD h n) ws with|none=>rw[z]at e;cases e|some ds=>rw[z]at e;cases e;exact .lst (cN.of h1) (λz=>z) (A9 (iJ r n) z h2)
theorem Nd(r:Rel K m h H){x y:W}{v u:V}{b:Bool}(e:cR h x y=aB b)(qv:aM K m h.n H v x)(qu:aM K m h.n H u y) :
 ∃d e',Rp K (λ_=>False) H v d/\Rp K (λ_=>False) H u e'/\SeqAt.shaped d=true/\SeqAt.shaped e'=true/\b=PyData.eqv d e':=by
 unfold cR at e;split at e;rename_i d e' h1 h2;split at e;rename_i hc;cases e;rw[bM]at hc;exact⟨d,e',iJ r _ _ _ _ h1 qv,iJ r _ _ _ _ h2 qu,hc.1,hc.2,rfl⟩;cases e;cases e
end
theorem yx{K:aO}{m:Nat->ah}{h:VH}{H:Hp}{v:V}{w:W}{ws:List W}(r:Rel K m h H)(q:aM K m h.n H v w)(e:aN h w=aB ws):∃p vs,v=.ref p/\(cN K H p vs\/bZ K H p vs)/\aF K m h.n H vs ws:=by
 cases q<;>try cases e
 exact⟨_,_,rfl,.inr ‹_›,‹_›⟩;rename_i q _;exact⟨_,_,rfl,.inl q.sq,‹_›⟩;rename_i i hi;simp only[aN]at e;cases g:h.get i with
 |none=>rw[g]at e;cases e
 |some o=>
  rw[g]at e;cases o with
  |dk _=>cases e
  |dm _=>cases e
  |dt _ _=>cases e
  |lst ws=>
   cases e;obtain⟨vs,h1,h2⟩:=r.lst g;exact⟨_,vs,rfl,.inl (cN.of h1),h2⟩
theorem Ii{K:aO}{m:Nat->ah}{n:Nat}{H:Hp}:∀{vs:List V} {ws:List W} {is:List Int},aF K m n H vs ws->aW intD ws=aB is->vs=is.map .int
 |_,_,_,.nil,e=>by cases e;rfl
 |_,_,_,.cons (w:=w) q r,e=>by
  simp only[aW]at e;cases q<;>try cases e
  rename_i i _ ws _;simp only[intD]at e;cases z:aW intD ws with|none=>rw[z]at e;cases e|some js=>rw[z]at e;cases e;rw[dz,Ii r z]
theorem Ba{K:aO}{m:Nat->ah}{n:Nat}{H:Hp}{v:V}{w:W}{k:DK}(q:aM K m n H v w)(e:dX w=aB k):∃b,v=.ref b/\cV K H k b:=by
 unfold dX at e;split at e;rename_i ws;cases z:aW intD ws with
 |none=>rw[z]at e;cases e
 |some is=>
  rw[z]at e;cases e;cases q with
  | @tup b vs _ sq rs=>
   cases rs with
   |cons q1 rs=>
    cases rs with
    |cons q2 rs=>
     cases rs;cases q2;cases q1 with
     | @tup c us _ Ij Ik=>
      refine⟨b,rfl,c,sq,?_⟩;rw[<-Ii Ik z];exact Ij
 rename_i ws i;cases z:aW intD ws with
 |none=>rw[z]at e;cases e
 |some is=>
  rw[z]at e;cases e;cases q with
  | @tup b vs _ sq rs=>
   cases rs with
   |cons q1 rs=>
    cases rs with
    |cons q2 rs=>
     cases rs;cases q2;cases q1 with
     | @tup c us _ Ij Ik=>
      refine⟨b,rfl,c,sq,?_⟩;rw[<-Ii Ik z];exact Ij
 cases e
theorem tZ{K:aO}{m:Nat->ah}{n:Nat}{H:Hp}:∀{xs:DX} {ks:List W},aW dX ks=aB (xs.map (·.1))->aF K m n H (xs.map λx=>.ref x.2.1) ks->∀p∈xs,cV K H p.1 p.2.1
 |[],_,_,_,p,hp=>nomatch hp
 |x::xs,ks,e,r,p,hp=>by
  rw[dz]at r;obtain⟨w,ks,rfl,q,r⟩:∃w ks',ks=w::ks'/\aM K m n H (.ref x.2.1) w/\aF K m n H (xs.map λx=>.ref x.2.1) ks':=by cases r with|cons q r=>exact⟨_,_,rfl,q,r⟩
  simp only[aW]at e;cases z:dX w with
  |none=>rw[z]at e;cases e
  |some k=>
   rw[z]at e;simp only at e;cases z2:aW dX ks with
   |none=>rw[z2]at e;cases e
   |some js=>
    rw[z2]at e;simp only[dz,vj,Eg]at e;rcases eV.mp hp with rfl|hp
    obtain⟨b,e1,e2⟩:=Ba q z;cases e1;rw[<-e.1];exact e2;exact tZ (by rw[z2,e.2]) r p hp
theorem j7{K:aO}{m:Nat->ah}{n:Nat}{H:Hp}{a:ah}{xs:DX}{ks:List W}(h:H a=aB (mJ xs a)\/(xs=[]/\H a=aB (.dK [])))(e:aW dX ks=aB (xs.map (·.1)))(q:aF K m n H (xs.map λx=>.ref x.2.1) ks):DT K H a xs:=
 h.imp (λz=>⟨z,tZ e q⟩) λ⟨z,y⟩=>⟨z,.inl y⟩
theorem EW{K:aO}{m:Nat->ah}{n:Nat}{H:Hp}:∀{xs:DX} {ks ws:List W} (k:DK),aW dX ks=aB (xs.map (·.1))->aF K m n H (xs.map λx=>x.2.2) ws->(bL xs k=aC/\dM ks ws k=aC)\/∃p w,bL xs k=aB p/\dM ks ws k=aB w/\aM K m n H p.2 w
 |[],ks,ws,k,e,r=>by
  cases ks with
  |nil=>exact .inl ⟨rfl,by unfold dM;rfl⟩
  |cons c ks=>
   simp only[aW]at e;split at e;split at e<;>cases e;cases e
 |x::xs,ks,ws,k,e,r=>by
  rw[dz]at r;obtain⟨w,ws,rfl,q,r⟩:∃w Bb,ws=w::Bb/\aM K m n H x.2.2 w/\aF K m n H (xs.map λx=>x.2.2) Bb:=by cases r with|cons q r=>exact⟨_,_,rfl,q,r⟩
  cases ks with
  |nil=>cases e
  |cons c ks=>
   simp only[aW]at e;cases z:dX c with
   |none=>rw[z]at e;cases e
   |some k'=>
    rw[z]at e;simp only at e;cases z2:aW dX ks with
    |none=>rw[z2]at e;cases e
    |some js=>
     rw[z2]at e;simp only[dz,vj,Eg]at e;unfold dM;rw[z,e.1];by_cases y:x.1=k;rw[if_pos (by rw[y])];exact .inr ⟨x.2,w,by simp[bL,kB,y],rfl,q⟩;rw[if_neg (λz=>y (jN z))];have:bL (x::xs) k=bL xs k:=by simp[bL,kB,y]
     rw[this];exact EW k (by rw[z2,e.2]) r
theorem Nf{K:aO}{m:Nat->ah}{h:VH}{H:Hp}(r:Rel K m h H){x y:W}{v u:V}{b:Bool}(e:inD h x y=aB b)(qv:aM K m h.n H v x)(qu:aM K m h.n H u y) :
 ∃a c xs k,u=.ref a/\v=.ref c/\DT K H a xs/\cV K H k c/\b=(bL xs k).isSome:=by
 unfold inD at e;split at e;rename_i i;split at e;rename_i ks ws k g hk;cases e;cases qu;obtain⟨xs,p1,p2,p3,p4⟩:=r.dt g;obtain⟨c,rfl,kk⟩:=Ba qv hk;refine⟨m i,c,xs,k,rfl,rfl,j7 p1 p2 p3,kk,?_⟩;rcases EW k p2 p4 with⟨z1,z2⟩|⟨p,w,z1,z2,_⟩<;> (rw[z1,z2];rfl)
 cases e;cases e
theorem Ng{K:aO}{m:Nat->ah}{h:VH}{H:Hp}(r:Rel K m h H){x y:W}{v u:V}{b:Bool}(e:j5 h x y=aB b)(qv:aM K m h.n H v x)(qu:aM K m h.n H u y) :
 (∃p vs ds d,u=.ref p/\(cN K H p vs\/bZ K H p vs)/\mE K (λ_=>False) H vs ds/\Rp K (λ_=>False) H v d/\ds.all SeqAt.shaped=true/\SeqAt.shaped d=true/\b=fP ds d)\/inD h x y=aB b:=by
 unfold j5 at e;split at e;rename_i ws d h1 h2;split at e;rename_i ds h3;split at e;rename_i hc;cases e;rw[bM]at hc;obtain⟨p,vs,rfl,h4,h5⟩:=yx r qu h1;exact .inl ⟨p,vs,ds,d,rfl,h4,A9 (iJ r 24) h3 h5,iJ r _ _ _ _ h2 qv,hc.1,hc.2,rfl⟩;cases e;cases e;exact .inr e
noncomputable def gO:CmpOp->Option Cp|.Eq=>aB .eq|.NotEq=>aB .ne|.Lt=>aB .lt|.LtE=>aB .le|.Gt=>aB .gt|.GtE=>aB .ge|.Is=>aB .ja|.IsNot=>aB .gK|.In=>aB .mK|.NotIn=>aB .rD
noncomputable def rC(K:aO):Cp->R2|.eq=>Ax K|.ne=>Ay K|.lt=>mz λi j=>.bl (decide (i<j))|.le=>mz λi j=>.bl (decide (i<=j))|.gt=>mz λi j=>.bl (decide (j<i))|.ge=>mz λi j=>.bl (decide (j<=i))|.ja=>λx y H Q=>(y=.aI/\Q (.bl (decide (x=.aI))) H)\/∃c b,x=.bl c/\y=.bl b/\Q (.bl (c==b)) H|.gK=>λx y H Q=>(y=.aI/\Q (.bl (!decide (x=.aI))) H)\/∃c b,x=.bl c/\y=.bl b/\Q (.bl (!(c==b))) H|.mK=>λx y H Q=>qZ K false x y H Q\/rA K false x y H Q|.rD=>λx y H Q=>qZ K true x y H Q\/rA K true x y H Q
noncomputable def qa:ao->Bool|.Set ..=>false|_=>true
theorem Il{op:CmpOp}{b:ao}(h:qa b):behindInMarks op b=false:=by cases b<;>first|rfl|cases h
section
variable{X:Cx}{a b c e:ao}{es:List ao}{fa fb fc:FE}{pos:Pos}
theorem V1:dW X (compareOp .Is) (λx y H Q=>∃c b,x=.bl c/\y=.bl b/\Q (.bl (c==b)) H):=by intro pins s σ H x y v u Q I rx ry h;obtain⟨c,b,rfl,rfl,q⟩:=h;cases rx;cases ry;exact wpAny_is_plain rfl (Ey I q (by cases c<;>cases b<;>rfl))
theorem V2:dW X (compareOp .IsNot) (λx y H Q=>∃c b,x=.bl c/\y=.bl b/\Q (.bl (!(c==b))) H):=by intro pins s σ H x y v u Q I rx ry h;obtain⟨c,b,rfl,rfl,q⟩:=h;cases rx;cases ry;exact wpAny_isNot_plain rfl (Ey I q (by cases c<;>cases b<;>rfl))
theorem yy(hu:X.A.units+65<cLine){O:CmpOp}{c:Cp}(e:gO O=aB c):dW X (compareOp O) (rC X.K c):=by cases O<;>cases e;exact Uy (by lia);exact Uz (by lia);exact zW;exact zX;exact zY;exact zZ;exact SN.or V1;exact SO.or V2;exact(US (by show X.A.units+1+64<cLine;lia)).or (VD (by lia));exact(UT (by show X.A.units+1+64<cLine;lia)).or (VE (by lia))
theorem EX{K:aO}{m:Nat->ah}{n:Nat}{H:Hp}{v:V}{w:W}(q:aM K m n H v w):bB w=decide (v=.aI):=by cases q<;>simp[bB]
theorem EY{K:aO}(c:Cp):A5 K (rC K c) (λx y h=>.of ((aQ c h x y).map .bl) h):=by
 intro m h H v u x y w h' Q r qv qu e k;obtain⟨e,rfl⟩:=of_ok e;cases z:aQ c h' x y with
 |none=>rw[z]at e;cases e
 |some b=>
  rw[z]at e;cases e;have fin:Q (.bl b) H:=aU.here k r (.bl b);unfold aQ at z;split at z;rcases Ng r z qv qu with⟨p,vs,ds,d,h1,h2,h3,h4,h5,h6,rfl⟩|z3
  exact .inl ⟨p,vs,ds,d,h1,h2,h3,h4,h5,h6,fin⟩;obtain⟨a,c,xs,dk,h1,h2,h3,h4,rfl⟩:=Nf r z3 qv qu;exact .inr ⟨a,c,xs,dk,h1,h2,h3,h4,fin⟩;cases z2:j5 h' x y with
  |none=>rw[z2]at z;cases z
  |some b2=>
   rw[z2]at z;cases z;rcases Ng r z2 qv qu with⟨p,vs,ds,d,h1,h2,h3,h4,h5,h6,rfl⟩|z3
   exact .inl ⟨p,vs,ds,d,h1,h2,h3,h4,h5,h6,fin⟩;obtain⟨a,c,xs,dk,h1,h2,h3,h4,rfl⟩:=Nf r z3 qv qu;exact .inr ⟨a,c,xs,dk,h1,h2,h3,h4,fin⟩
  obtain⟨d,e',h1,h2,h3,h4,rfl⟩:=Nd r z qv qu;exact⟨d,e',h1,h2,h3,h4,fin⟩;cases z2:cR h' x y with
  |none=>rw[z2]at z;cases z
  |some b2=>
   rw[z2]at z;cases z;obtain⟨d,e',h1,h2,h3,h4,rfl⟩:=Nd r z2 qv qu;exact⟨d,e',h1,h2,h3,h4,fin⟩
  split at z;rename_i hn;cases z;have:=EX qu;rw[hn]at this;refine .inl ⟨jP this.symm,?_⟩;rw[<-EX qv];exact fin;unfold AV at z;split at z;rename_i c b;cases z;cases qv;cases qu;exact .inr ⟨_,_,rfl,rfl,fin⟩;cases z;split at z;rename_i hn;cases z;have:=EX qu;rw[hn]at this;refine .inl ⟨jP this.symm,?_⟩;rw[<-EX qv];exact fin;cases z2:AV x y with
  |none=>rw[z2]at z;cases z
  |some b2=>
   rw[z2]at z;cases z;unfold AV at z2;split at z2;rename_i c b;cases z2;cases qv;cases qu;exact .inr ⟨_,_,rfl,rfl,fin⟩;cases z2
  split at z;rename_i i j;cases qv;cases qu;cases c<;>simp only[fJ]at z<;>cases z<;>exact⟨i,j,rfl,rfl,fin⟩;cases z
theorem V3(hu:X.A.units+65<cLine){O:CmpOp}{c:Cp}(e:gO O=aB c)(hs:qa b)(ha:SE X a fa)(hb:SE X b fb) :
 SE X (.Compare a [O] [b] pos) (λρ h=>(fa ρ h).bind λx h=>(fb ρ h).bind λy h=>.of ((aQ c h x y).map .bl) h):=
 (SQ (yy hu e) ha hb (Il hs)).imp λσ H Q q=>EU (G:=rC X.K c) (EY c) q
theorem V4(hu:X.A.units+65<cLine){O:CmpOp}{c:Cp}(e:gO O=aB c)(hs:qa b)(ha:SE X a fa)(hb:SE X b fb) :
 ST X (.Compare a [O] [b] pos) (λρ h=>(fa ρ h).bind λx h=>(fb ρ h).bind λy h=>.of ((aQ c h x y).map .bl) h):=
 (SR (yy hu e) ha hb (Il hs)).imp λσ H Q q=>EU (G:=rC X.K c) (EY c) (Na q)
theorem Nh{O O':CmpOp}{a b:ao}(h:qa b):lastMarks [O,O'] [a,b]=false:=Il h
theorem Ni{K:aO}{c1 c2:Cp}{σ:L2.St}{H:Hp}{Q:VK}
 (q:iI K (λρ h=>(fa ρ h).bind λx h=>(fb ρ h).bind λy h=>match aQ c1 h x y with
   |some true=>(fc ρ h).bind λz h=>.of ((aQ c2 h y z).map .bl) h
   |some false=>.ok (.bl false) h
   |none=>.no) σ H Q):Hi (rC K c1) (rC K c2) (iI K fa) (iI K fb) (iI K fc) σ H Q:=by
 refine q.el λρ h m w h' f r e k=>?_;refine cg e λx h1 e1 e2=>?_;refine cg e2 λy h2 e3 e4=>?_;refine(.mk f r e1 λv H1 m1 s1 r1 q1=>(.mk (f.stp s1) r1 e3 λu H2 m2 s2 r2 q2=>?_));have f2:=(f.stp s1).stp s2;have k2:aU K m2 h2.n H2 w h' Q:=λv' H' m' s' r' q'=>k v' H' m' ((s1.trans s2).trans s') r' q';cases z:aQ c1 h2 x y with
 |none=>rw[z]at e4;cases e4
 |some b=>
  rw[z]at e4;refine EY c1 m2 h2 H2 v u x y (.bl b) h2 _ r2 (q1.stp s2) q2 (by show Res.of ((aQ c1 h2 x y).map W.bl) h2=_;rw[z];rfl) λv3 H3 m3 s3 r3 q3=>?_;cases q3;refine⟨b,rfl,?_⟩;cases b with
  |true=>
   refine cg e4 λz' h4 e5 e6=>?_;rw[if_pos rfl];refine⟨ρ,h2,m3,z',h4,f2.stp s3,r3,e5,λv4 H4 m4 s4 r4 q4=>?_⟩;exact EY c2 m4 h4 H4 u v4 y z' w h' Q r4 ((q2.stp s3).stp s4) q4 e6 λv' H' m' s' r' q'=>k2 v' H' m' ((s3.trans s4).trans s') r' q'
  |false=>
   cases e4;simp only[eW,dF];exact k2 _ H3 m3 s3 r3 (.bl false)
theorem V5(hu:X.A.units+65<cLine){O O':CmpOp}{c1 c2:Cp}(e:gO O=aB c1)(e':gO O'=aB c2)(hs:qa c)(ha:SE X a fa)(hb:SE X b fb)(hc:SE X c fc) :
 SE X (.Compare a [O,O'] [b,c] pos) (λρ h=>(fa ρ h).bind λx h=>(fb ρ h).bind λy h=>match aQ c1 h x y with|some true=>(fc ρ h).bind λz h=>.of ((aQ c2 h y z).map .bl) h|some false=>.ok (.bl false) h|none=>.no):=(SV (yy hu e) (yy hu e') ha hb hc (Nh hs)).imp λσ H Q q=>Ni q
theorem V6(hu:X.A.units+65<cLine){O O':CmpOp}{c1 c2:Cp}(e:gO O=aB c1)(e':gO O'=aB c2)(hs:qa c)(ha:SE X a fa)(hb:SE X b fb)(hc:SE X c fc) :
 ST X (.Compare a [O,O'] [b,c] pos) (λρ h=>(fa ρ h).bind λx h=>(fb ρ h).bind λy h=>match aQ c1 h x y with|some true=>(fc ρ h).bind λz h=>.of ((aQ c2 h y z).map .bl) h|some false=>.ok (.bl false) h|none=>.no):=(SX (yy hu e) (yy hu e') ha hb hc (Nh hs)).imp λσ H Q q=>Ni (Na q)
noncomputable abbrev Bc(fa:FE):FE:=λρ h=>(fa ρ h).bind λx h=>match x with|.bl b=>.ok (.bl (!b)) h|_=>.no
noncomputable abbrev Be(fa fb:FE):FE:=λρ h=>(fa ρ h).bind λx h=>match x with|.bl true=>fb ρ h|.bl false=>.ok (.bl false) h|_=>.no
noncomputable abbrev Nj(fa fb:FE):FE:=λρ h=>(fa ρ h).bind λx h=>match x with|.bl true=>.ok (.bl true) h|.bl false=>fb ρ h|_=>.no
noncomputable abbrev Im(fa fb fc:FE):FE:=λρ h=>(fa ρ h).bind λx h=>match x with|.bl true=>fb ρ h|.bl false=>fc ρ h|_=>.no
variable{rest:List ao}
theorem V7(ha:ST X a fa):ST X (.UnaryOp .Not a pos) (Bc fa):=(RV ha).imp λσ H Q z9=>z9.el λρ h m b h' f r e k=>by
 refine cg e λx h1 e1 e2=>?_;cases x<;>try cases e2
 rename_i b;exact(.mk f r e1 λH' m' s' r'=>k H' m' s' r')
theorem V8(ha:SE X a fa):SE X (.UnaryOp .Not a pos) (Bc fa):=(RY ha).imp λσ H Q z9=>z9.el λρ h m b h' f r e k=>by
 refine cg e λx h1 e1 e2=>?_;cases x<;>try cases e2
 rename_i b;exact(.mk f r e1 λv H' m' s' r' q=>by cases q;exact⟨b,rfl,k _ H' m' s' r' (.bl _)⟩)
theorem Nk{op:BoolOp}(ha:ST X a fa):SW X (.BoolOp op [a] pos) fa:=by cases op;exact RS ha;exact RT ha
theorem V9(ha:ST X a fa)(hb:SW X (.BoolOp .And (b::rest) pos) fb):SW X (.BoolOp .And (a::b::rest) pos) (Be fa fb):=(RU ha hb).imp λσ H Q z9=>z9.el λρ h m b h' f r e k=>by
 refine cg e λx h1 e1 e2=>?_;cases x<;>try cases e2
 rename_i c;refine(.mk f r e1 λH1 m1 s1 r1=>?_);cases c with|true=>rw[if_pos rfl];exact(.mk (f.stp s1) r1 e2 λH' m' s' r'=>k H' m' (s1.trans s') r')|false=>cases e2;simp only[eW,dF];exact k H1 m1 s1 r1
theorem Bf(ha:ST X a fa)(hb:SW X (.BoolOp .Or (b::rest) pos) fb):SW X (.BoolOp .Or (a::b::rest) pos) (Nj fa fb):=(pw_or ha hb).imp λσ H Q z9=>z9.el λρ h m b h' f r e k=>by
 refine cg e λx h1 e1 e2=>?_;cases x<;>try cases e2
 rename_i c;refine(.mk f r e1 λH1 m1 s1 r1=>?_);cases c with|true=>cases e2;rw[if_pos rfl];exact k H1 m1 s1 r1|false=>simp only[eW,dF];exact(.mk (f.stp s1) r1 e2 λH' m' s' r'=>k H' m' (s1.trans s') r')
theorem Nl{op:BoolOp}(ha:SE X a fa):SE X (.BoolOp op [a] pos) fa:=RW ha
theorem Wa(ha:SE X a fa)(hb:SE X (.BoolOp .And (b::rest) pos) fb):SE X (.BoolOp .And (a::b::rest) pos) (Be fa fb):=(RX ha hb).imp λσ H Q z9=>z9.el λρ h m w h' f r e k=>by
 refine cg e λx h1 e1 e2=>?_;cases x<;>try cases e2
 rename_i c;refine(.mk f r e1 λv H1 m1 s1 r1 q1=>?_);cases q1;refine⟨c,rfl,?_⟩;cases c with|true=>rw[if_pos rfl];exact(.mk (f.stp s1) r1 e2 λv H' m' s' r' q'=>k v H' m' (s1.trans s') r' q')|false=>cases e2;simp only[eW,dF];exact k _ H1 m1 s1 r1 (.bl false)
theorem Bg(ha:SE X a fa)(hb:SE X (.BoolOp .Or (b::rest) pos) fb):SE X (.BoolOp .Or (a::b::rest) pos) (Nj fa fb):=(zJ ha hb).imp λσ H Q z9=>z9.el λρ h m w h' f r e k=>by
 refine cg e λx h1 e1 e2=>?_;cases x<;>try cases e2
 rename_i c;refine(.mk f r e1 λv H1 m1 s1 r1 q1=>?_);cases q1;refine⟨c,rfl,?_⟩;cases c with|true=>cases e2;rw[if_pos rfl];exact k _ H1 m1 s1 r1 (.bl true)|false=>simp only[eW,dF];exact(.mk (f.stp s1) r1 e2 λv H' m' s' r' q'=>k v H' m' (s1.trans s') r' q')
theorem Wb(hc:ST X c fc)(ha:SE X a fa)(hb:SE X b fb):SE X (.IfExp c a b pos) (Im fc fa fb):=(R1 hc ha hb).imp λσ H Q z9=>z9.el λρ h m w h' f r e k=>by
 refine cg e λx h1 e1 e2=>?_;cases x<;>try cases e2
 rename_i c;refine(.mk f r e1 λH1 m1 s1 r1=>?_);cases c with|true=>rw[if_pos rfl];exact(.mk (f.stp s1) r1 e2 λv H' m' s' r' q'=>k v H' m' (s1.trans s') r' q')|false=>simp only[eW,dF];exact(.mk (f.stp s1) r1 e2 λv H' m' s' r' q'=>k v H' m' (s1.trans s') r' q')
theorem Nm{K:aO}{m:Nat->ah}{n:Nat}{H:Hp}{vs:List V}{ws:List W}(q:aF K m n H vs ws):vs.isEmpty=ws.isEmpty:=by cases q<;>rfl
theorem Wc{K:aO}{m:Nat->ah}{h:VH}{H:Hp}{v:V}{w:W}{b:Bool}(r:Rel K m h H)(q:aM K m h.n H v w)(e:fV h w=aB b):vG K v H b:=by
 cases q with
 |aI=>cases e;rfl
 |bl x=>cases e;rfl
 |int i=>cases e;rfl
 |str x=>cases e
 |fz _ _=>cases e
 |tup sq rs=>cases e;exact .inr (.inl ⟨_,sq,by rw[Nm rs]⟩)
 | @ref i hi=>
  simp only[fV]at e;cases g:h.get i with
  |none=>rw[g]at e;cases e
  |some o=>
   rw[g]at e;cases o with
   |dk _=>cases e
   |dm _=>cases e
   |dt _ _=>cases e
   |lst ws=>
    cases e;obtain⟨vs,h1,h2⟩:=r.lst g;exact .inl ⟨vs,cN.of h1,by rw[Nm h2]⟩
theorem Io(ha:SE X a fa)(he:∀whole,isTrue a X.env whole=(do let v <-whole;standAt a.pos;holding [v] (truthy v))) :
 ST X a (λρ h=>(fa ρ h).bind λx h=>.of ((fV h x).map .bl) h):=(S1 ha he).imp λσ H Q z9=>z9.el λρ h m b h' f r e k=>by
 refine cg e λx h1 e1 e2=>?_;obtain⟨e2,rfl⟩:=of_ok e2;cases z:fV h' x with
 |none=>rw[z]at e2;cases e2
 |some c=>
  rw[z]at e2;cases e2;exact(.mk f r e1 λv H' m' s' r' q=>⟨b,Wc r' q z,k H' m' s' r'⟩)
theorem Wd(ha:SE X a fa):SE X (.UnaryOp .USub a pos) (λρ h=>(fa ρ h).bind λx h=>match x with|.int i=>.ok (.int (-i)) h|_=>.no):=
 (zU SM ha).imp λσ H Q q=>M9 (g:=λx h=>match x with|.int i=>.ok (.int (-i)) h|_=>.no) (G:=rU λi=>.int (-i)) (λm h H v x w h' Q r q e k=>by
   cases q<;>try cases e
   rename_i i;exact⟨i,rfl,aU.here k r (.int _)⟩) q
end
section
variable{K:aO}{m m0:Nat->ah}{n n0:Nat}{h:VH}{H H0:Hp}
theorem Rel.adopt(r:Rel K m h H){p:ah}{o:VO}{u u0:HO}(hp:∀i,i<h.n->m i≠p)(hu:H p=aB u0)(ht:∀t,u0≠.tup t)(hf:∀o t,u0≠.bN o t)(s:bV m0 n0 H0 m h.n H)(h0:H0 p=aC)
 (ho:bV m h.n H (λi=>if i=h.n then p else m i) (h.n+1) (upd H p u)\/True->(∀{v:V}{w:W},aM K m h.n H v w->aM K (λi=>if i=h.n then p else m i) (h.n+1) (upd H p u) v w)->fW K (λi=>if i=h.n then p else m i) (h.n+1) (upd H p u) p o) :
 bV m0 n0 H0 (λi=>if i=h.n then p else m i) (h.n+1) (upd H p u)/\Rel K (λi=>if i=h.n then p else m i) (h.new o) (upd H p u):=by
 have kt:∀b vs,H b=aB (.tup vs)->upd H p u b=aB (.tup vs):=λb vs q=>by rw[bQ (dI q hu λz=>ht vs z.symm)];exact q
 have kf:∀b o t,H b=aB (.bN o t)->upd H p u b=aB (.bN o t):=λb o t q=>by rw[bQ (dI q hu λz=>hf o t z.symm)];exact q
 have mv:∀{v:V}{w:W},aM K m h.n H v w->aM K (λi=>if i=h.n then p else m i) (h.n+1) (upd H p u) v w:=by
  intro v w q;have st:bV m h.n (λb=>if b=p then aC else H b) (λi=>if i=h.n then p else m i) (h.n+1) (upd H p u):=by
   refine⟨ly _,λi hi=>by simp only[if_neg (fB hi)],λi hi hi2=>?_,λi j hi hi2 hj=>?_,λb vs q=>?_,λb o t q=>?_,λb o _ q=>?_⟩;have:i=h.n:=by lia
   subst this;simp only[b9];have:i=h.n:=by lia
   subst this;simp only[b9,if_neg (fB hj)];exact(hp j hj).symm;split at q;cases q;exact kt b vs q;split at q;cases q;exact kf b o t q;split at q;cases q;rename_i z;rw[bQ z];exact q
  refine aM.stp st ?_;have back:∀{a vs},bZ K H a vs->bZ K (λb=>if b=p then aC else H b) a vs:=by
   intro a vs q;rcases q with(q|⟨o,q⟩)|q
   exact .inl (.inl (by simp only[if_neg (dI q hu λz=>ht vs z.symm)];exact q));exact .inl (.inr ⟨o,by simp only[if_neg (dI q hu λz=>hf o _ z.symm)];exact q⟩);exact .inr q
  have Bh:∀{a vs},Fz K H a vs->Fz K (λb=>if b=p then aC else H b) a vs:=by
   intro a vs q;rcases q with⟨o,q⟩|q
   exact .inl ⟨o,by simp only[if_neg (dI q hu λz=>hf o _ z.symm)];exact q⟩;exact .inr q
  exact(aM.rec (K:=K) (m:=m) (n:=h.n) (H:=H) (motive_1:=λv w _=>aM K m h.n (λb=>if b=p then aC else H b) v w) (motive_2:=λvs ws _=>aF K m h.n (λb=>if b=p then aC else H b) vs ws)
   .aI .bl .int .str (λsq _ ih=>.tup (back sq) ih) (λsq _ ih=>.fz (Bh sq) ih) (λhi=>.ref hi) .nil (λ_ _ i1 i2=>.cons i1 i2) q)
 refine⟨⟨DM s.le,λi hi=>?_,λi hi hi2=>?_,λi j hi hi2 hj=>?_,λb vs q=>kt b vs (s.tup b vs q),λb o t q=>kf b o t (s.bN b o t q),λb o nb q=>?_⟩,⟨λi hi=>?_,λi j hi hj z=>?_,?_⟩⟩;have:=s.le;simp only[if_neg (show i≠h.n by lia)];exact s.same i hi;by_cases e:i=h.n;subst e;simp only[b9];exact h0;simp only[if_neg e];exact s.new i hi (by lia);have:=s.le;simp only[if_neg (show j≠h.n by lia)];by_cases e:i=h.n;subst e;simp only[b9];exact(hp j (by lia)).symm;simp only[if_neg e];exact s.apart i j hi (by lia) hj;rw[bQ (gj q h0)];exact s.keep b o nb q;have hi:i<h.n+1:=hi;by_cases e:i=h.n;subst e;exact⟨o,cY,by simp only[b9];exact ho (.inr trivial) mv⟩;have hl:i<h.n:=by lia
 obtain⟨o',h1,h2⟩:=r.obj i hl;refine⟨o',(gE hl).trans h1,?_⟩;simp only[if_neg e];have eq:upd H p u (m i)=H (m i):=bQ (hp i hl);cases o' with
 |lst ws=>
  obtain⟨vs,q1,q2⟩:=h2;exact⟨vs,eq.trans q1,aF.rec (K:=K) (m:=m) (n:=h.n) (H:=H) (motive_1:=λv w _=>aM K m h.n H v w) (motive_2:=λvs ws _=>aF K (λi=>if i=h.n then p else m i) (h.n+1) (upd H p u) vs ws)
   .aI .bl .int .str (λsq q _=>.tup sq q) (λsq q _=>.fz sq q) (λhi=>.ref hi) .nil (λq _ _ i2=>.cons (mv q) i2) q2⟩
 |dk ws=>
  obtain⟨vs,q1,q2⟩:=h2;have go:∀{vs:List (Key×V)}{ws:List (Key×W)},aS K m h.n H vs ws->aS K (λi=>if i=h.n then p else m i) (h.n+1) (upd H p u) vs ws:=by
   intro vs ws q2;induction q2 with|nil=>exact .nil|cons q _ ih=>exact .cons (mv q) ih
  exact⟨vs,q1.imp (λz=>eq.trans z) λ⟨o,z⟩=>⟨o,eq.trans z⟩,go q2⟩
 |dm ws=>
  obtain⟨vs,q1,q2⟩:=h2;have go:∀{vs:List (Key×V)}{ws:List (Key×W)},aS K m h.n H vs ws->aS K (λi=>if i=h.n then p else m i) (h.n+1) (upd H p u) vs ws:=by
   intro vs ws q2;induction q2 with|nil=>exact .nil|cons q _ ih=>exact .cons (mv q) ih
  exact⟨vs,eq.trans q1,go q2⟩
 |dt ks ws=>
  obtain⟨xs,q1,q0,q2,q3⟩:=h2;have go:∀{vs:List V}{ws:List W},aF K m h.n H vs ws->aF K (λi=>if i=h.n then p else m i) (h.n+1) (upd H p u) vs ws:=λq2=>
   aF.rec (K:=K) (m:=m) (n:=h.n) (H:=H) (motive_1:=λv w _=>aM K m h.n H v w) (motive_2:=λvs ws _=>aF K (λi=>if i=h.n then p else m i) (h.n+1) (upd H p u) vs ws)
    .aI .bl .int .str (λsq q _=>.tup sq q) (λsq q _=>.fz sq q) (λhi=>.ref hi) .nil (λq _ _ i2=>.cons (mv q) i2) q2
  exact⟨xs,q1.imp (λz=>eq.trans z) λ⟨o,z⟩=>⟨o,eq.trans z⟩,q0,go q2,go q3⟩
 have hi:i<h.n+1:=hi;have hj:j<h.n+1:=hj;by_cases e:i=h.n;by_cases e2:j=h.n;lia;simp only[if_pos e,if_neg e2]at z;exact absurd z.symm (hp j (by lia));by_cases e2:j=h.n;simp only[if_neg e,if_pos e2]at z;exact absurd z (hp i (by lia));simp only[if_neg e,if_neg e2]at z;exact r.inj i j (by lia) (by lia) z;show(o::h.os).length=h.n+1;rw[dG,r.len]
theorem aF.map{m':Nat->ah}{n':Nat}{H':Hp}(mv:∀{v:V} {w:W},aM K m n H v w->aM K m' n' H' v w):∀{vs:List V} {ws:List W},aF K m n H vs ws->aF K m' n' H' vs ws|_,_,.nil=>.nil|_,_,.cons q r=>.cons (mv q) (aF.map mv r)
theorem aS.map{m':Nat->ah}{n':Nat}{H':Hp}(mv:∀{v:V} {w:W},aM K m n H v w->aM K m' n' H' v w):∀{vs:List (Key×V)} {ws:List (Key×W)},aS K m n H vs ws->aS K m' n' H' vs ws|_,_,.nil=>.nil|_,_,.cons q r=>.cons (mv q) (aS.map mv r)
theorem aS.look(k:Key):∀{vs:List (Key×V)} {ws:List (Key×W)},aS K m n H vs ws->(fF vs k=aC/\bE ws k=aC)\/∃v w,fF vs k=aB v/\bE ws k=aB w/\aM K m n H v w
 |_,_,.nil=>.inl ⟨rfl,rfl⟩
 |_,_,.cons (k:=k') (v:=v) (w:=w) q r=>by
  by_cases e:k'=k;refine .inr ⟨v,w,EE (p:=(k',v)) e,?_,q⟩;unfold bE;rw[kB];simp[e];rcases aS.look k r with⟨a,b⟩|⟨v',w',a,b,c⟩
  refine .inl ⟨(Az (p:=(k',v)) e).trans a,?_⟩;unfold bE at b ⊢;rw[kB];simp only[fE e];exact b;refine .inr ⟨v',w',(Az (p:=(k',v)) e).trans a,?_,c⟩;unfold bE at b ⊢;rw[kB];simp only[fE e];exact b
theorem aS.any(k:Key):∀{vs:List (Key×V)} {ws:List (Key×W)},aS K m n H vs ws->(vs.any λkv=>decide (kv.1=k))=(ws.any λkv=>decide (kv.1=k))|_,_,.nil=>rfl|_,_,.cons q r=>by rw[xR,xR,aS.any k r]
theorem aS.repl{v:V}{w:W}(q:aM K m n H v w)(k:Key):∀{vs:List (Key×V)} {ws:List (Key×W)},aS K m n H vs ws->aS K m n H (vs.map λkv=>if kv.1=k then(kv.1,v)else kv) (ws.map λkv=>if kv.1=k then(kv.1,w)else kv)
 |_,_,.nil=>.nil
 |_,_,.cons (k:=k') p r=>by
  rw[dz,dz];by_cases e:k'=k;simp only[if_pos e];exact .cons q (aS.repl q k r);simp only[if_neg e];exact .cons p (aS.repl q k r)
theorem aS.snoc{v:V}{w:W}(q:aM K m n H v w)(k:Key):∀{vs:List (Key×V)} {ws:List (Key×W)},aS K m n H vs ws->aS K m n H (vs++[(k,v)]) (ws++[(k,w)])|_,_,.nil=>.cons q .nil|_,_,.cons p r=>.cons p (aS.snoc q k r)
theorem aS.put{v:V}{w:W}(q:aM K m n H v w)(k:Key){vs:List (Key×V)}{ws:List (Key×W)}(r:aS K m n H vs ws):aS K m n H (putK vs k v) (gv ws k w):=by unfold putK gv;rw[r.any k];split;exact r.repl q k;exact r.snoc q k
theorem aS.merge{vs:List (Key×V)}{ws:List (Key×W)}(q:aS K m n H vs ws):∀{va:List (Key×V)} {wa:List (Key×W)},aS K m n H va wa->aS K m n H (tT va vs) (ET wa ws):=by
 induction q with|nil=>exact λa=>a|cons q r ih=>exact λa=>ih (a.put q _)
theorem aS.length:∀{vs:List (Key×V)} {ws:List (Key×W)},aS K m n H vs ws->vs.length=ws.length|_,_,.nil=>rfl|_,_,.cons _ r=>by rw[dG,dG,aS.length r]
theorem Bj{v:V}{w:W}{k:Key}(q:aM K m n H v w)(e:mL w=aB k):v=kV k:=by cases q<;>cases e<;>rfl
theorem Ip{vs:List V}{ws:List W}{i:Int}{w:W}(q:aF K m n H vs ws)(e:cz ws i=aB w):∃v,cz vs i=aB v/\aM K m n H v w:=by
 unfold cz at e ⊢;rw[q.length];cases z:iw ws.length i with
 |none=>rw[z]at e;cases e
 |some j=>
  rw[z]at e;exact q.get e
end
noncomputable def vU(K:aO):R2:=λx y H Q=>Ai K x y H Q\/Aj K x y H Q\/(∃a v,x=.ref a/\mG H a y (aB v)/\Q v H)\/AO K x y H Q
section
variable{X:Cx}{a b c e o:ao}{es:List ao}{fa fb fc fo:FE}{pos:Pos}
theorem We(hu:X.A.units+1<cLine):pZ X (λx y H Q=>∃a v,x=.ref a/\mG H a y (aB v)/\Q v H):=by intro value slice pins s σ H x y v u Q I rx ry q hs;obtain⟨a,v',rfl,g,q⟩:=q;obtain rfl:v=Value.ref a:=rx;exact tail_any (UK I g) PySem.F.slot_dict_getitem.lookup (UI hu I g ry λw' s3 I3 rw'=>⟨v',H,I3,rw',q⟩) hs
theorem Bk(hu:X.A.units+2<cLine):pZ X (vU X.K):=Tw.or (Tz.or ((We (by lia)).or (AQ hu)))
theorem Wf{K:aO}:A5 K (vU K) (λx y h=>.of (bx h x y) h):=by
 intro m h H v u x y w h' Q r qv qu e0 k;obtain⟨e,e1⟩:=of_ok e0;clear e0;subst e1;unfold bx at e;split at e;cases qv with
 |tup sq rs=>
  cases qu;obtain⟨v',h1,h2⟩:=Ip rs e;exact .inr (.inl ⟨_,_,_,v',rfl,rfl,sq,h1,aU.here k r h2⟩)
 cases qv with
 |fz sq rs=>
  cases qu;obtain⟨v',h1,h2⟩:=Ip rs e;exact .inl ⟨_,_,_,v',rfl,rfl,sq.sq,h1,aU.here k r h2⟩
 rename_i i j;cases qv;cases qu;cases g:h'.get i with
 |none=>rw[g]at e;cases e
 |some ob=>
  rw[g]at e;cases ob with
  |lst ws=>
   obtain⟨vs,p1,p2⟩:=r.lst g;obtain⟨v',h1,h2⟩:=Ip p2 e;exact .inl ⟨_,_,_,v',rfl,rfl,cN.of p1,h1,aU.here k r h2⟩
  |dk ws=>
   have e:bE ws (.inl j)=aB w:=e;obtain⟨vs,p1,p2⟩:=r.dk g;rcases p2.look (.inl j)with⟨_,z⟩|⟨v',w',z1,z2,z3⟩
   rw[z]at e;cases e;rw[z2]at e;cases e;exact .inr (.inr (.inl ⟨_,v',rfl,by rw[<-z1];exact .inl ⟨vs,.inl j,p1,rfl,rfl⟩,aU.here k r z3⟩))
  |dm ws=>
   have e:bE ws (.inl j)=aB w:=e;obtain⟨vs,p1,p2⟩:=r.dm g;rcases p2.look (.inl j)with⟨_,z⟩|⟨v',w',z1,z2,z3⟩
   rw[z]at e;cases e;rw[z2]at e;cases e;exact .inr (.inr (.inl ⟨_,v',rfl,by rw[<-z1];exact .inl ⟨vs,.inl j,.inl p1,rfl,rfl⟩,aU.here k r z3⟩))
  |dt _ _=>cases e
 rename_i i j;cases qv;cases qu;cases g:h'.get i with
 |none=>rw[g]at e;cases e
 |some ob=>
  rw[g]at e;cases ob with
  |lst ws=>cases e
  |dk ws=>
   have e:bE ws (.inr (aB j))=aB w:=e;obtain⟨vs,p1,p2⟩:=r.dk g;rcases p2.look (.inr (aB j))with⟨_,z⟩|⟨v',w',z1,z2,z3⟩
   rw[z]at e;cases e;rw[z2]at e;cases e;exact .inr (.inr (.inl ⟨_,v',rfl,by rw[<-z1];exact .inl ⟨vs,.inr (aB j),p1,rfl,rfl⟩,aU.here k r z3⟩))
  |dm _=>cases e
  |dt _ _=>cases e
 rename_i i _ _;cases qv;unfold rE at e;split at e;rename_i ks ws dk g hk;obtain⟨xs,p1,p2,p3,p4⟩:=r.dt g;obtain⟨c,rfl,kk⟩:=Ba qu hk;rcases EW dk p2 p4 with⟨_,z2⟩|⟨p,w',z1,z2,z3⟩
 rw[z2]at e;cases e;rw[z2]at e;cases e;exact .inr (.inr (.inr ⟨_,c,xs,dk,p,rfl,rfl,j7 p1 p2 p3,kk,z1,aU.here k r z3⟩));cases e;cases e
theorem Wg(hu:X.A.units+2<cLine)(ha:SE X a fa)(hb:SE X b fb)(hs:Hs b):SE X (.Subscript a b pos) (λρ h=>(fa ρ h).bind λx h=>(fb ρ h).bind λy h=>.of (bx h x y) h):=
 (Ah (Bk hu) ha hb hs).imp λσ H Q q=>EU (G:=vU X.K) Wf q
noncomputable def jG(K:aO)(b:Bool)(f:FE):TO:=λσ H Q=>∃ρ h m w o h',Fr K m h.n H σ ρ/\Rel K m h H/\f ρ h=.ok w h'/\dN b w=aB o/\∀H' m',bV m h.n H m' h'.n H'->Rel K m' h' H'->Q o H'
theorem jG.el{K:aO}{σ:L2.St}{H:Hp}{P:Prop}{b:Bool}{fa:FE}{Q:Option Int->Hp->Prop}(q:jG K b fa σ H Q)(k:∀ρ h m w o h',Fr K m h.n H σ ρ->Rel K m h H->fa ρ h=.ok w h'->dN b w=aB o->(∀H' m',bV m h.n H m' h'.n H'->Rel K m' h' H'->Q o H')->P):P:=by obtain⟨ρ,h,m,w,o,h',f,r,e,ep,k'⟩:=q;exact k ρ h m w o h' f r e ep k'
theorem jG.mk{K:aO}{σ:L2.St}{H:Hp}{m:Nat->ah}{ρ:En}{h h':VH}{w:W}{o:Option Int}{b:Bool}{fa:FE}{Q:Option Int->Hp->Prop}(f:Fr K m h.n H σ ρ)(r:Rel K m h H)(e:fa ρ h=.ok w h')(ep:dN b w=aB o)(k:∀H' m',bV m h.n H m' h'.n H'->Rel K m' h' H'->Q o H'):jG K b fa σ H Q:=⟨ρ,h,m,w,o,h',f,r,e,ep,k⟩
theorem Wh{w:W}:PO X aC (jG X.K false (λ_ h=>.ok w h)):=λpins s σ H Q I z9=>z9.el λρ h m w o h' f r e ep k=>by
 cases e;have:o=aC:=by unfold dN at ep;cases ep;rfl
 subst this;exact Tp pins s σ H Q I (k H m .refl r)
theorem Wi(ha:SE X e fa):PO X (aB e) (jG X.K true fa):=λpins s σ H Q I z9=>z9.el λρ h m w o h' f r e ep k=>by
 refine Tq ha pins s σ H Q I (.mk f r e λv H' m' s' r' q=>?_);cases q<;>cases ep;exact⟨_,rfl,k H' m' s' r'⟩
theorem Nn{K:aO}{m:Nat->ah}{n:Nat}{H:Hp}{vs:List V}{ws:List W}(q:aF K m n H vs ws)(lo hi:Option Int):aF K m n H (jX vs lo hi) (gw ws lo hi):=by unfold jX gw;rw[q.length];exact(q.drop _).take _
theorem Wj{ws:List W}{lo hi:Option Int}(h:HT.bI ws.length 0 lo=0/\HT.bI ws.length ws.length hi=ws.length):gw ws lo hi=ws:=by unfold gw;rw[h.1,h.2];simp
theorem Wk{lo hi:Option ao}{fl fh:FE}{p2:Pos}{bl bh:Bool}(ha:SE X a fa)(hl:PO X lo (jG X.K bl fl))(hh:PO X hi (jG X.K bh fh)) :
 SE X (.Subscript a (.Slice lo hi aC p2) pos) (λρ h=>(fa ρ h).bind λx h=>(fl ρ h).bind λl h=>(fh ρ h).bind λu h=>match dN bl l,dN bh u with|some l,aB u=>jD x l u h|_,_=>.no):=
 (Tt UW ha hl hh).imp λσ H Q z9=>z9.el λρ h m w h' f r e k=>by
   refine cg e λx h1 e1 e2=>?_;refine cg e2 λl h2 e3 e4=>?_;refine cg e4 λu h3 e5 e6=>?_;split at e6;rename_i l' u' pl pu;refine(.mk f r e1 λv H1 m1 s1 r1 q1=>(.mk (f.stp s1) r1 e3 pl λH2 m2 s2 r2=>(.mk ((f.stp s1).stp s2) r2 e5 pu λH3 m3 s3 r3=>?_)));have q3:=(q1.stp s2).stp s3;have kk:aU X.K m3 h3.n H3 w h' Q:=λv' H' m' s' r' q'=>k v' H' m' (((s1.trans s2).trans s3).trans s') r' q';unfold jD at e6;split at e6;rename_i ws;cases e6;cases q3 with
   | @tup a vs _ sq rs=>
    by_cases hw:HT.bI vs.length 0 l'=0/\HT.bI vs.length vs.length u'=vs.length;refine .inl (.inr ⟨_,_,rfl,sq,hw,?_⟩);have Np:=hw;rw[rs.length]at Np;rw[Wj Np]at kk;exact aU.here kk r3 (.tup sq rs);exact .inl (.inl ⟨_,_,rfl,sq,hw,λp hp=>aU.tuple kk r3 (Nn rs l' u') hp⟩)
   rename_i i;cases q3;cases g:h3.get i with
   |none=>rw[g]at e6;cases e6
   |some ob=>
    rw[g]at e6;cases ob with
    |lst ws=>
     cases e6;obtain⟨vs,p1,p2⟩:=r3.lst g;exact .inr ⟨_,_,rfl,cN.of p1,λp hp=>aU.list kk r3 (Nn p2 l' u') hp⟩
    |dk ws=>cases e6
    |dm _=>cases e6
    |dt _ _=>cases e6
   cases e6;cases e6
end
noncomputable def iy:ao->Bool|.Starred ..=>false|_=>true
theorem iK{e:ao}{es:List ao}{env:Env}(h:iy e):starEach (e::es) env=(false,eval e env)::starEach es env:=by cases e<;>first|rfl|cases h
theorem Bl{pos:Pos}{env:Env}:∀{es:List ao},es.all iy=true->(backTo pos (starEach es env)).any (·.1)=false
 |[],_=>rfl
 |e::es,h=>by
  rw[mh,bM]at h;rw[iK h.1];show(false|| (backTo pos (starEach es env)).any (·.1))=false;rw[Bl h.2];rfl
noncomputable abbrev kQ:FE:=λ_ h=>.ok (.tup []) h
noncomputable abbrev jm(fa fb:FE):FE:=λρ h=>(fa ρ h).bind λx h=>(fb ρ h).bind λy h=>match y with|.tup ys=>.ok (.tup (x::ys)) h|_=>.no
section
variable{X:Cx}{a b c e o:ao}{es:List ao}{fa fb fc fo:FE}{pos p:Pos}{x:Str}
noncomputable abbrev jH(fa:FE)(g:List W->VH->Res W):FE:=λρ h=>(fa ρ h).bind λy h=>match y with|.tup ys=>g ys h|_=>.no
noncomputable def eK(K:aO)(r:List V->Hp->VK->Prop)(g:List W->VH->Res W):Prop:=∀(m:Nat->ah) (h:VH) (H:Hp) (vs:List V) (xs:List W) (w:W) (h':VH) (Q:VK),Rel K m h H->aF K m h.n H vs xs->g xs h=.ok w h'->aU K m h.n H w h' Q->r vs H Q
theorem vV{id:String}{r:List V->Hp->VK->Prop}{g:List W->VH->Res W}(hc:bK X (.builtin id) r)(hv:eK X.K r g)(hg:Gl X x)(hm:X.mg x=aC)(hb:bootBuiltins x=aB (.builtin id))(ha:SA X (e::es) fa)(hs:(e::es).all iy=true)
 (hn:x≠"__name__") (hdb:(x==("__debug__" : Str))=false):SE X (.Call (.Name x p) (e::es) [] pos) (jH fa g):=by
 rw[mh,bM]at hs;exact(Mj hc hg hm hb ha hn hdb (iK hs.1) (Bl hs.2)).imp λσ H Q q=>yv hv q
theorem Iq{T:String}{r:List V->Hp->VK->Prop}{g:List W->VH->Res W}(hc:bK X (.type T) r)(hv:eK X.K r g)(hg:Gl X x)(hm:X.mg x=aC)(hb:bootBuiltins x=aB (.type T))(ha:SA X (e::es) fa)(hs:(e::es).all iy=true)
 (hn:x≠"__name__") (hdb:(x==("__debug__" : Str))=false):SE X (.Call (.Name x p) (e::es) [] pos) (jH fa g):=by
 rw[mh,bM]at hs;exact(Tf hc hg hm hb ha hn hdb (iK hs.1) (Bl hs.2)).imp λσ H Q q=>yv hv q
theorem fk{K:aO}{m:Nat->ah}{n:Nat}{H:Hp}{vs:List V}{w:W}(q:aF K m n H vs [w]):∃v,vs=[v]/\aM K m n H v w:=by cases q with|cons q r=>cases r;exact⟨_,rfl,q⟩
theorem Wl{K:aO}:eK K (λxs H Q=>(∃p ys,xs=[.ref p]/\(cN K H p ys\/bZ K H p ys)/\Q (.int ys.length) H)\/∃a ys,xs=[.ref a]/\DT K H a ys/\Q (.int ys.length) H) fK:=by
 intro m h H vs xs w h' Q r q e k;unfold fK at e;split at e<;>try cases e
 rename_i x;obtain⟨v,rfl,q1⟩:=fk q;obtain⟨e,rfl⟩:=of_ok e;cases z:aN h' x with
 |none=>
  rw[z]at e;simp only[jl]at e;cases q1<;>try cases e
  rename_i i _ _;cases g:h'.get i with
  |none=>simp[g]at e
  |some ob=>
   cases ob with
   |lst _=>simp[g]at e
   |dk _=>simp[g]at e
   |dm _=>simp[g]at e
   |dt ks ws=>
    simp only[g,dO,vj]at e;subst e;obtain⟨xs,p1,p2,p3,p4⟩:=r.dt g;have:=p3.length;rw[bF]at this;exact .inr ⟨_,xs,rfl,j7 p1 p2 p3,by rw[this];exact aU.here k r (.int _)⟩
 |some ws=>
  rw[z]at e;cases e;obtain⟨p,us,rfl,h1,h2⟩:=yx r q1 z;exact .inl ⟨p,us,rfl,h1,by rw[h2.length];exact aU.here k r (.int _)⟩
theorem Wm{K:aO}{m:Nat->ah}{n:Nat}{H:Hp}:∀{vs:List (Key×V)} {ws:List (Key×W)},aS K m n H vs ws->aF K m n H (vs.map λkv=>kV kv.1) (ws.map λkv=>cX kv.1):=by
 intro vs ws q;induction q with|nil=>exact .nil| @cons k _ _ _ _ _ _ ih=>exact .cons (match k with|.inl i=>.int i|.inr (aB x)=>.str x|.inr aC=>.aI) ih
theorem Wn{K:aO}:eK K (λxs H Q=>(∃p ys,xs=[.ref p]/\(cN K H p ys\/bZ K H p ys)/\∀l,H l=aC->Q (.ref l) (upd H l (.lst ys)))\/∃a kvs,xs=[.ref a]/\H a=aB (.dK kvs)/\∀l,H l=aC->Q (.ref l) (upd H l (.lst (kvs.map λkv=>kV kv.1)))) gS:=by
 intro m h H vs xs w h' Q r q e k;unfold gS at e;split at e<;>try cases e
 rename_i x;obtain⟨v,rfl,q1⟩:=fk q;cases z:aN h x with
 |none=>
  rw[z]at e;dsimp only at e;split at e<;>cases e;rename_i ws z2;unfold oj at z2;split at z2<;>try cases z2
  rename_i i;split at z2<;>cases z2;rename_i kvs g;cases q1;obtain⟨us,p1,p2⟩:=r.dm g;exact .inr ⟨_,us,rfl,p1,λl hl=>aU.list k r (Wm p2) hl⟩
 |some ws=>
  rw[z]at e;cases e;obtain⟨p,us,rfl,h1,h2⟩:=yx r q1 z;exact .inl ⟨p,us,rfl,h1,λl hl=>aU.list k r h2 hl⟩
theorem Wo{K:aO}:eK K (λxs H Q=>(∃p ys,xs=[.ref p]/\((cN K H p ys/\∀l,H l=aC->Q (.ref l) (upd H l (.tup ys)))\/(bZ K H p ys/\Q (.ref p) H)))\/∃a ys,xs=[.ref a]/\DT K H a ys/\∀l,H l=aC->Q (.ref l) (upd H l (.tup (ys.map λp=>.ref p.2.1)))) om:=by
 intro m h H vs xs w h' Q r q e k;unfold om at e;split at e<;>try cases e
 rename_i x;obtain⟨v,rfl,q1⟩:=fk q;obtain⟨e,rfl⟩:=of_ok e;cases z:aN h' x with
 |none=>
  rw[z]at e;simp only[jl]at e;cases q1<;>try cases e
  rename_i i _ _;cases g:h'.get i with
  |none=>simp[g]at e
  |some ob=>
   cases ob with
   |lst _=>simp[g]at e
   |dk _=>simp[g]at e
   |dm _=>simp[g]at e
   |dt ks ws=>
    simp only[g,dO,vj]at e;subst e;obtain⟨xs,p1,p2,p3,p4⟩:=r.dt g;exact .inr ⟨_,xs,rfl,j7 p1 p2 p3,λl hl=>aU.tuple k r p3 hl⟩
 |some ws=>
  rw[z]at e;cases e;obtain⟨p,us,rfl,h1,h2⟩:=yx r q1 z;rcases h1 with h1|h1
  exact .inl ⟨p,us,rfl,.inl ⟨h1,λl hl=>aU.tuple k r h2 hl⟩⟩;exact .inl ⟨p,us,rfl,.inr ⟨h1,aU.here k r (.tup h1 h2)⟩⟩
theorem Wq{K:aO}:eK K (λxs H Q=>(∃i,xs=[.int i]/\Q (.int i) H)\/∃k,xs=[.bl k]/\Q (.int (if k then 1 else 0)) H) jE:=by
 intro m h H vs xs w h' Q r q e k;unfold jE at e;split at e<;>try cases e
 obtain⟨v,rfl,q1⟩:=fk q;cases q1;exact .inl ⟨_,rfl,aU.here k r (.int _)⟩;obtain⟨v,rfl,q1⟩:=fk q;cases q1;exact .inr ⟨_,rfl,aU.here k r (.int _)⟩
theorem Wr{K:aO}:eK K (λxs H Q=>∃i,xs=[.int i]/\Q (.int (if i<0 then -i else i)) H) kO:=by
 intro m h H vs xs w h' Q r q e k;unfold kO at e;split at e<;>try cases e
 obtain⟨v,rfl,q1⟩:=fk q;cases q1;exact⟨_,rfl,aU.here k r (.int _)⟩
theorem j8{K:aO}{m:Nat->ah}{n:Nat}{H:Hp}{vs:List V}{w z:W}(q:aF K m n H vs [w,z]):∃v u,vs=[v,u]/\aM K m n H v w/\aM K m n H u z:=by cases q with|cons q r=>obtain⟨u,rfl,h⟩:=fk r;exact⟨_,_,rfl,q,h⟩
theorem Ws{K:aO}:eK K (λxs H Q=>∃i j,xs=[.int i,.int j]/\Q (.int (if j<i then j else i)) H) kP:=by
 intro m h H vs xs w h' Q r q e k;unfold kP at e;split at e<;>try cases e
 obtain⟨v,u,rfl,q1,q2⟩:=j8 q;cases q1;cases q2;exact⟨_,_,rfl,aU.here k r (.int _)⟩
theorem Nq{K:aO}{m:Nat->ah}{n:Nat}{H:Hp}:∀{vs:List V} {ws:List W} {bs:List Bool},aF K m n H vs ws->aW tW ws=aB bs->vs=bs.map .bl
 |_,_,bs,.nil,e=>by cases e;rfl
 |_,_,bs,.cons (w:=w) (ws:=ws) q r,e=>by
  unfold aW at e;cases z:tW w with
  |none=>rw[z]at e;cases e
  |some b=>
   rw[z]at e;cases z2:aW tW ws with
   |none=>rw[z2]at e;cases e
   |some cs=>
    rw[z2]at e;cases e;unfold tW at z;split at z<;>cases z;cases q;rw[Nq r z2];rfl
theorem Wt{K:aO}:eK K (λxs H Q=>∃(p:ah) (bs:List Bool),xs=[.ref p]/\cN K H p (bs.map .bl)/\Q (.bl (bs.all id)) H) mO:=by
 intro m h H vs xs w h' Q r q e k;unfold mO at e;split at e<;>try cases e
 rename_i i;split at e<;>try cases e
 rename_i ws g;obtain⟨v,rfl,q1⟩:=fk q;obtain⟨e,rfl⟩:=of_ok e;cases z:aW tW ws with
 |none=>rw[z]at e;cases e
 |some bs=>
  rw[z]at e;cases e;cases q1;obtain⟨us,p1,p2⟩:=r.lst g;refine⟨_,bs,rfl,?_,aU.here k r (.bl _)⟩;rw[<-Nq p2 z];exact .inl (.inl p1)
noncomputable def rF:Ty->String|.int=>"int" |.bool=>"bool" |.tuple=>"tuple" |.list=>"list" |.str=>"str" |.dict=>"dict"
noncomputable def Bm(K:aO)(n:String):List V->Hp->VK->Prop:=λxs H Q=>∃x b,xs=[x,.ty n]/\((∃t,gm K H x t/\PySem.W.kitOne K t (.type n)=aB b)\/(∃a vs,x=.ref a/\bZ K H a vs/\PySem.W.kitOne K (.type "tuple") (.type n)=aB b)\/∃a kvs,x=.ref a/\Rd H a (.dK kvs)/\PySem.W.kitOne K (.type "dict") (.type n)=aB b)/\Q (.bl b) H
theorem Wu(n:String):bK X (.builtin "isinstance") (Bm X.K n):=by
 intro pins s σ H xs us Q I r h;obtain⟨x,b,rfl,hi,q⟩:=h;obtain⟨u,u2,rfl,rx,rc⟩:=vals2 r;obtain rfl:u2=Value.type n:=rc;rcases hi with⟨t,ty,e⟩|⟨a,vs,rfl,sq,e⟩|⟨a,kvs,rfl,rd,e⟩
 exact S8 I rx ty e λtk=>⟨.bl b,H,I.tok _,rfl,q⟩
 obtain rfl:u=Value.ref a:=rx;obtain⟨its,_,p,_⟩:=I.tuple sq;obtain⟨o,h1,h2,_⟩:=p;exact mq PySem.W.kitx_tuple I.jB ⟨o,h1,h2⟩ e (λz=>nomatch z) λtk=>⟨.bl b,H,I.tok _,rfl,q⟩
 obtain rfl:u=Value.ref a:=rx;obtain⟨_,_,_,_,o,_,_,h1,h2,_⟩:=iF I.hok rd;exact mq PySem.W.kitx_dict I.jB ⟨o,h1,h2.1⟩ e (λz=>nomatch z) λtk=>⟨.bl b,H,I.tok _,rfl,q⟩
theorem Wv{K:aO}(t:Ty){m:Nat->ah}{h:VH}{H:Hp}{v:V}{x:W}{b:Bool}(r:Rel K m h H)(q:aM K m h.n H v x)(e:eS t h x=aB b) :
 (∃t',gm K H v t'/\PySem.W.kitOne K t' (.type (rF t))=aB b)\/(∃a vs,v=.ref a/\bZ K H a vs/\PySem.W.kitOne K (.type "tuple") (.type (rF t))=aB b)\/∃a kvs,v=.ref a/\Rd H a (.dK kvs)/\PySem.W.kitOne K (.type "dict") (.type (rF t))=aB b:=by
 cases q with
 |aI=>cases e;refine .inl ⟨_,.aI,?_⟩;cases t<;>rfl
 |bl x=>cases e;refine .inl ⟨_,.bl x,?_⟩;cases t<;>rfl
 |int x=>cases e;refine .inl ⟨_,.int x,?_⟩;cases t<;>rfl
 |str x=>cases e;refine .inl ⟨_,.str x,?_⟩;cases t<;>rfl
 |tup sq rs=>cases e;refine .inr (.inl ⟨_,_,rfl,sq,?_⟩);cases t<;>rfl
 |fz _ _=>cases e
 | @ref i hi=>
  simp only[eS]at e;cases g:h.get i with
  |none=>rw[g]at e;cases e
  |some o=>
   rw[g]at e;cases o with
   |lst ws=>
    cases e;obtain⟨vs,h1,h2⟩:=r.lst g;refine .inl ⟨_,.lst h1,?_⟩;cases t<;>rfl
   |dk ws=>
    cases e;obtain⟨vs,h1,h2⟩:=r.dk g;refine .inr (.inr ⟨_,_,rfl,h1,?_⟩);cases t<;>rfl
   |dm _=>cases e
   |dt _ _=>cases e
theorem Ww(t:Ty){T:Str}{p2:Pos}(ha:SE X e fa)(hs:iy e)(hg:Gl X "isinstance")(hm:X.mg "isinstance" = aC)(Wx:Gl X T)(Wy:X.mg T=aC)(Wz:bootBuiltins T=aB (.type (rF t)))(hn:T≠"__name__")(hd:(T==("__debug__" : Str))=false) :
 SE X (.Call (.Name "isinstance" p) [e,.Name T p2] [] pos) (λρ h=>(fa ρ h).bind λx h=>.of ((eS t h x).map .bl) h):=by
 have hT:PE X (.Name T p2) (tC (.ty (rF t))):=RP Wx Wy Wz rfl hn hd;refine(Mj (Wu (rF t)) hg hm PyProof.Rows.boot_isinstance (Ac ha (Ac hT Ez) (iK hs)) (by decide) (by decide) (iK hs) rfl).imp λσ H Q q=>?_;refine M9 (g:=λx h=>.of ((eS t h x).map .bl) h) (G:=λv H1 Q=>Bm X.K (rF t) [v,.ty (rF t)] H1 Q) (λm h H v x w h' Q r q e k=>?_) q;obtain⟨e,rfl⟩:=of_ok e;cases z:eS t h' x with
 |none=>rw[z]at e;cases e
 |some b=>
  rw[z]at e;cases e;exact⟨v,b,rfl,Wv t r q z,aU.here k r (.bl b)⟩
noncomputable def EZ:ao->Bool|.Name .. |.Subscript ..=>true|_=>false
theorem Nr{o:ao}{m:Str}{env:Env}(h:EZ o):attributeBase o m env (eval o env)=eval o env:=by cases o<;>first|rfl|cases h
noncomputable abbrev Nt(m:Mt)(fo fa:FE):FE:=λρ h=>(fo ρ h).bind λx h=>if vS m h x then(fa ρ h).bind λy h=>match y with|.tup ys=>p9 m x ys h|_=>.no else .no
theorem WA{apos:Pos}(ho:SE X o fo)(he:SE X e fa)(hb:EZ o)(hs:iy e)(hl:(apos.endLine==pos.line)) :
 SE X (.Call (.Attribute o "append" apos) [e] [] pos) (Nt .append fo (jm fa kQ)):=by
 refine(Am (X:=X) PySem.F.plainAttrs_list PySem.F.slot_list_append PySem.F.type_list_append Mx ho (Ac he Ez (iK hs)) (Nr hb) ?_ hl (iK hs) rfl).imp λσ H Q z9=>z9.el λρ h m w h' f r e k=>?_;rw[iK hs];rfl;refine cg e λx h1 e1 e2=>?_;split at e2;rename_i hk;refine cg e2 λy h2 e3 e4=>?_;refine cg e3 λz h3 e5 e6=>?_;cases e6;refine(.mk f r e1 λv H1 m1 s1 r1 q1=>?_);cases x<;>try cases hk
 rename_i i;simp only[vS]at hk;cases g:h1.get i with
 |none=>rw[g]at hk;cases hk
 |some ob=>
  rw[g]at hk;cases ob with
  |dk _=>cases hk
  |dm _=>cases hk
  |dt _ _=>cases hk
  |lst HZ=>
   cases q1;obtain⟨yr,p1,_⟩:=r1.lst g;refine⟨.inl ⟨rfl,yr,cN.of p1⟩,ρ,h1,m1,z,h2,f.stp s1,r1,e5,λv2 H2 m2 s2 r2 q2=>?_⟩;simp only[p9]at e4;cases g2:h2.get i with
   |none=>rw[g2]at e4;cases e4
   |some ob=>
    rw[g2]at e4;cases ob with
    |dk _=>cases e4
    |dm _=>cases e4
    |dt _ _=>cases e4
    |lst ws=>
     simp only at e4;split at e4;rename_i hz;cases e4;obtain⟨vs,p2,p3⟩:=r2.lst g2;have hmi:m1 i=m2 i:=(s2.same i (cK g)).symm;refine⟨m1 i,vs,v2,rfl,rfl,by rw[hmi];exact p2,by rw[p3.length];exact fD.mp hz,?_⟩;obtain⟨st,r'⟩:=r2.write (i:=i) (o:=.lst (ws++[z])) (u:=.lst (vs++[v2])) (cK g2) p2 (λ_ z=>nomatch z) (λ_ _ z=>nomatch z) λst=>⟨vs++[v2],gi,(p3.stp st).append (.cons (q2.stp st) .nil)⟩
     rw[hmi];exact k .aI _ m2 ((s1.trans s2).trans st) r' .aI;cases e4
 cases e2
theorem WB{apos:Pos}(hu:X.A.units+1<cLine)(ho:SE X o fo)(ha:SE X a fa)(Ht:SE X b fb)(hb:EZ o)(hs:iy a)(hs2:iy b)(hl:(apos.endLine==pos.line)) :
 SE X (.Call (.Attribute o "get" apos) [a,b] [] pos) (Nt .get fo (jm fa (jm fb kQ))):=by
 have tr:backTo pos (starEach [a,b] X.env)=[(false,eval a X.env),(false,eval b X.env)]:=by rw[iK hs,iK hs2];rfl
 refine(UR hu ho ha Ht ⟨Nr hb,by rw[tr];rfl,hl,tr⟩).imp λσ H Q z9=>z9.el λρ h m w h' f r e k=>?_;refine cg e λx h1 e1 e2=>?_;split at e2;rename_i hk;refine cg e2 λy h2 e3 e4=>?_;refine cg e3 λz h3 e5 e6=>?_;refine cg e6 λy2 h4 e7 e8=>?_;refine cg e7 λz2 h5 e9 WC=>?_;cases WC;cases e8;refine(.mk f r e1 λv H1 m1 s1 r1 q1=>?_);cases x<;>try cases hk
 rename_i i;simp only[vS]at hk;cases g:h1.get i with
 |none=>rw[g]at hk;cases hk
 |some ob=>
  rw[g]at hk;cases ob with
  |lst _=>cases hk
  |dt _ _=>cases hk
  |dk HZ=>
   cases q1;obtain⟨yr,p1,_⟩:=r1.dk g;refine⟨m1 i,rfl,.inl ⟨yr,p1⟩,ρ,h1,m1,z,h3,f.stp s1,r1,e5,λv2 H2 m2 s2 r2 q2=>(.mk ((f.stp s1).stp s2) r2 e9 λv3 H3 m3 s3 r3 q3=>?_)⟩;simp only[p9]at e4;split at e4;rename_i kvs kk g2 hkk;cases e4;obtain⟨vs,p2,p3⟩:=r3.dk g2;have hmi:m1 i=m3 i:=((s3.same i (dS (cK g) s2.le)).trans (s2.same i (cK g))).symm;have hv:=Bj (q2.stp s3) hkk;subst hv;refine⟨fF vs kk,by rw[hmi];exact .inl ⟨vs,kk,p2,rfl,rfl⟩,?_⟩;have ou:=(s1.trans s2).trans s3;rcases p3.look kk with⟨z1,z2⟩|⟨v',w',z1,z2,z3⟩
   rw[z1];rw[z2]at k;exact k _ H3 m3 ou r3 q3;rw[z1];rw[z2]at k;exact k _ H3 m3 ou r3 z3;rename_i kvs kk g2 hkk;cases e4;obtain⟨vs,p2,p3⟩:=r3.dm g2;have hmi:m1 i=m3 i:=((s3.same i (dS (cK g) s2.le)).trans (s2.same i (cK g))).symm;have hv:=Bj (q2.stp s3) hkk;subst hv;refine⟨fF vs kk,by rw[hmi];exact .inl ⟨vs,kk,.inl p2,rfl,rfl⟩,?_⟩;have ou:=(s1.trans s2).trans s3;rcases p3.look kk with⟨z1,z2⟩|⟨v',w',z1,z2,z3⟩
   rw[z1];rw[z2]at k;exact k _ H3 m3 ou r3 q3;rw[z1];rw[z2]at k;exact k _ H3 m3 ou r3 z3;cases e4
  |dm HZ=>
   cases q1;obtain⟨yr,p1,_⟩:=r1.dm g;refine⟨m1 i,rfl,.inl ⟨yr,.inl p1⟩,ρ,h1,m1,z,h3,f.stp s1,r1,e5,λv2 H2 m2 s2 r2 q2=>(.mk ((f.stp s1).stp s2) r2 e9 λv3 H3 m3 s3 r3 q3=>?_)⟩;simp only[p9]at e4;split at e4;rename_i kvs kk g2 hkk;cases e4;obtain⟨vs,p2,p3⟩:=r3.dk g2;have hmi:m1 i=m3 i:=((s3.same i (dS (cK g) s2.le)).trans (s2.same i (cK g))).symm;have hv:=Bj (q2.stp s3) hkk;subst hv;refine⟨fF vs kk,by rw[hmi];exact .inl ⟨vs,kk,p2,rfl,rfl⟩,?_⟩;have ou:=(s1.trans s2).trans s3;rcases p3.look kk with⟨z1,z2⟩|⟨v',w',z1,z2,z3⟩
   rw[z1];rw[z2]at k;exact k _ H3 m3 ou r3 q3;rw[z1];rw[z2]at k;exact k _ H3 m3 ou r3 z3;rename_i kvs kk g2 hkk;cases e4;obtain⟨vs,p2,p3⟩:=r3.dm g2;have hmi:m1 i=m3 i:=((s3.same i (dS (cK g) s2.le)).trans (s2.same i (cK g))).symm;have hv:=Bj (q2.stp s3) hkk;subst hv;refine⟨fF vs kk,by rw[hmi];exact .inl ⟨vs,kk,.inl p2,rfl,rfl⟩,?_⟩;have ou:=(s1.trans s2).trans s3;rcases p3.look kk with⟨z1,z2⟩|⟨v',w',z1,z2,z3⟩
   rw[z1];rw[z2]at k;exact k _ H3 m3 ou r3 q3;rw[z1];rw[z2]at k;exact k _ H3 m3 ou r3 z3;cases e4
 cases e2
end
section
variable{K:aO}{m m' m1:Nat->ah}{n n' n1:Nat}{h h':VH}{H H' H1:Hp}
mutual
theorem aM.mono(hn:n<=n')(hm:∀i,i<n->m' i=m i)(kt:∀b vs,H b=aB (.tup vs)->H' b=aB (.tup vs))(kf:∀b o u,H b=aB (.bN o u)->H' b=aB (.bN o u)):∀{v:V} {w:W},aM K m n H v w->aM K m' n' H' v w
 |_,_,.aI=>.aI
 |_,_,.bl b=>.bl b
 |_,_,.int b=>.int b
 |_,_,.str b=>.str b
 |_,_,.tup q r=>.tup (by
  rcases q with(q|⟨o,q⟩)|q;exact .inl (.inl (kt _ _ q));exact .inl (.inr ⟨o,kf _ _ _ q⟩);exact .inr q) (aF.mono hn hm kt kf r)
 |_,_,.fz q r=>.fz (by
  rcases q with⟨o,q⟩|q;exact .inl ⟨o,kf _ _ _ q⟩;exact .inr q) (aF.mono hn hm kt kf r)
 |_,_,.ref (i:=i) q=>by rw[<-hm i q];exact .ref (dS q hn)
theorem aF.mono(hn:n<=n')(hm:∀i,i<n->m' i=m i)(kt:∀b vs,H b=aB (.tup vs)->H' b=aB (.tup vs))(kf:∀b o u,H b=aB (.bN o u)->H' b=aB (.bN o u)):∀{vs:List V} {ws:List W},aF K m n H vs ws->aF K m' n' H' vs ws|_,_,.nil=>.nil|_,_,.cons q r=>.cons (aM.mono hn hm kt kf q) (aF.mono hn hm kt kf r)
end
theorem Rel.side(r:Rel K m h H){D:ah}{u u0:HO}(hu:H D=aB u0)(ht:∀t,u0≠.tup t)(hf:∀o t,u0≠.bN o t)(ho:∀i,i<h.n->m i≠D)(s:bV m1 n1 H1 m h.n H)(h0:H1 D=aC) :
 bV m1 n1 H1 m h.n (upd H D u)/\Rel K m h (upd H D u)/\∀{v:V}{w:W},aM K m h.n H v w->aM K m h.n (upd H D u) v w:=by
 have kt:∀b vs,H b=aB (.tup vs)->upd H D u b=aB (.tup vs):=λb vs q=>by rw[bQ (dI q hu λz=>ht vs z.symm)];exact q
 have kf:∀b o t,H b=aB (.bN o t)->upd H D u b=aB (.bN o t):=λb o t q=>by rw[bQ (dI q hu λz=>hf o t z.symm)];exact q
 have mv:∀{v:V}{w:W},aM K m h.n H v w->aM K m h.n (upd H D u) v w:=λq=>q.mono (bq _) (λ_ _=>rfl) kt kf;refine⟨⟨s.le,s.same,s.new,s.apart,λb vs q=>kt b vs (s.tup b vs q),λb o t q=>kf b o t (s.bN b o t q),λb o nb q=>by rw[bQ (gj q h0)];exact s.keep b o nb q⟩,⟨λi hi=>?_,r.inj,r.len⟩,mv⟩;obtain⟨o,h1,h2⟩:=r.obj i hi;have eq:upd H D u (m i)=H (m i):=bQ (ho i hi);refine⟨o,h1,?_⟩;cases o with|lst ws=>obtain⟨vs,q1,q2⟩:=h2;exact⟨vs,eq.trans q1,q2.map mv⟩|dk ws=>obtain⟨vs,q1,q2⟩:=h2;exact⟨vs,q1.imp (λz=>eq.trans z) λ⟨o,z⟩=>⟨o,eq.trans z⟩,q2.map mv⟩|dm ws=>obtain⟨vs,q1,q2⟩:=h2;exact⟨vs,eq.trans q1,q2.map mv⟩|dt ks ws=>obtain⟨xs,q1,q0,q2,q3⟩:=h2;exact⟨xs,q1.imp (λz=>eq.trans z) λ⟨o,z⟩=>⟨o,eq.trans z⟩,q0,q2.map mv,q3.map mv⟩
theorem Rel.out(r:Rel K m h H){p:ah}(hp:H p=aC):∀i,i<h.n->m i≠p:=λi hi z=>by
 obtain⟨o',_,h2⟩:=r.obj i hi;obtain⟨u',h3⟩:=h2.some;rw[z,hp]at h3;cases h3
theorem bV.out(s:bV m n H m' n' H'){p:ah}{u:HO}(hp:∀i,i<n->m i≠p)(hu:H p=aB u):∀i,i<n'->m' i≠p:=λi hi z=>by
 by_cases hl:i<n;exact hp i hl ((s.same i hl).symm.trans z);have:=s.new i (jM.mp hl) hi;rw[z,hu]at this;cases this
end
inductive gU(K:aO)(m:Nat->ah)(n:Nat)(H:Hp):List (V×V)->List W->Prop
 |nil:gU K m n H [] []
 |cons {k v:V} {a b:W} {ps:List (V×V)} {ws:List W}:aM K m n H k a->aM K m n H v b->gU K m n H ps ws->gU K m n H ((k,v)::ps) (a::b::ws)
noncomputable def oz(K:aO)(f:FE)(σ:L2.St)(H:Hp)(Q:List (V×V)->Hp->Prop):Prop:=∃ρ h m ws h',Fr K m h.n H σ ρ/\Rel K m h H/\f ρ h=.ok (.tup ws) h'/\
 ∀ps H' m',bV m h.n H m' h'.n H'->Rel K m' h' H'->gU K m' h'.n H' ps ws->Q ps H'
theorem oz.el{K:aO}{σ:L2.St}{H:Hp}{P:Prop}{fa:FE}{Q:List (V×V)->Hp->Prop}(q:oz K fa σ H Q)(k:∀ρ h m ws h',Fr K m h.n H σ ρ->Rel K m h H->fa ρ h=.ok (.tup ws) h'->(∀ps H' m',bV m h.n H m' h'.n H'->Rel K m' h' H'->gU K m' h'.n H' ps ws->Q ps H')->P):P:=by obtain⟨ρ,h,m,w,h',f,r,e,k'⟩:=q;exact k ρ h m w h' f r e k'
theorem oz.mk{K:aO}{σ:L2.St}{H:Hp}{m:Nat->ah}{ρ:En}{h h':VH}{ws:List W}{fa:FE}{Q:List (V×V)->Hp->Prop}(f:Fr K m h.n H σ ρ)(r:Rel K m h H)(e:fa ρ h=.ok (.tup ws) h')(k:∀ps H' m',bV m h.n H m' h'.n H'->Rel K m' h' H'->gU K m' h'.n H' ps ws->Q ps H'):oz K fa σ H Q:=⟨ρ,h,m,ws,h',f,r,e,k⟩
noncomputable def Bo(X:Cx)(pos:Pos)(keys:List (Option ao))(values:List ao)(f:FE):Prop:=∃lF,AD X pos keys values lF/\∀σ H Q,oz X.K f σ H Q->EG lF σ H Q
section
variable{X:Cx}{a b c e o:ao}{es:List ao}{fa fb fc fo fr:FE}{pos p:Pos}{x:Str}
theorem WD:Bo X pos [] [] kQ:=⟨[],UM,λσ H Q z9=>z9.el λρ h m ws h' f r e k=>by cases e;exact k [] H m .refl r .nil⟩
theorem WE{ks:List (Option ao)}{vs:List ao}(ha:SE X a fa)(hb:SE X b fb)(hr:Bo X pos ks vs fr):Bo X pos (aB a::ks) (b::vs) (jm fa (jm fb fr)):=by
 obtain⟨lF,h1,h2⟩:=hr;refine⟨_,UN ha hb h1,λσ H Q z9=>z9.el λρ h m ws h' f r e k=>?_⟩;refine cg e λx h3 e1 e2=>?_;refine cg e2 λy h4 e3 e4=>?_;refine cg e3 λx2 h5 e5 e6=>?_;refine cg e6 λy2 h6 e7 e8=>?_;cases y2<;>try cases e8
 cases e4;rename_i ys;exact(.mk f r e1 λv H1 m1 s1 r1 q1=>(.mk (f.stp s1) r1 e5 λv2 H2 m2 s2 r2 q2=>h2 σ H2 _ (.mk ((f.stp s1).stp s2) r2 e7 λps H3 m3 s3 r3 q3=>
  k _ H3 m3 ((s1.trans s2).trans s3) r3 (.cons ((q1.stp s2).stp s3) (q2.stp s3) q3))))
theorem Nu{K:aO}{m:Nat->ah}{n:Nat}{H:Hp}:∀{ps:List (V×V)} {ws:List W} {kws:List (Key×W)},gU K m n H ps ws->oq ws=aB kws->∃kvs:List (Key×V),ps=kvs.map (λkv=>(kV kv.1,kv.2))/\aS K m n H kvs kws
 |_,_,_,.nil,e=>by cases e;exact⟨[],rfl,.nil⟩
 |_,_,_,.cons (a:=a) (v:=v) q1 q2 r,e=>by
  simp only[oq]at e;split at e;rename_i k hk;split at e;rename_i kvs hp;cases e;obtain⟨kv,rfl,r'⟩:=Nu r hp;refine⟨(k,v)::kv,?_,.cons q2 r'⟩;rw[dz,Bj q1 hk];cases e;cases e
noncomputable abbrev Bp(f:FE):FE:=λρ h=>(f ρ h).bind λy h=>match y with
 |.tup ys=>(match oq ys with
  |some kvs=>if Nat.ble kvs.length 15 then .ok (.ref h.n) (h.new (A1 kvs))else .no
  |none=>jF ys h)
 |_=>.no
theorem WG{K:aO}{m:Nat->ah}{n:Nat}{H:Hp}{ps:List (V×V)}{a b:W}(q:gU K m n H ps [a,b]):∃k v,ps=[(k,v)]/\aM K m n H k a/\aM K m n H v b:=by cases q with|cons q1 q2 r=>cases r;exact⟨_,_,rfl,q1,q2⟩
theorem WH(hu:X.A.units+2<cLine){keys:List (Option ao)}{values:List ao}(hp:Bo X pos keys values fa)(hall:keys.all (·.isSome))(hl:keys.length=values.length)(h0:keys≠[])(HY:keys.length<=15):SE X (.Dict keys values pos) (Bp fa):=by
 obtain⟨lF,h1,h2⟩:=hp;refine(VL hu h1 hall hl h0 HY).imp λσ H Q z9 p hp=>z9.el λρ h m w h' f r e k=>?_;refine cg e λy h3 e1 e2=>?_;cases y<;>try cases e2
 rename_i ys;obtain⟨nv,r0⟩:=r.more (u:=.dK []) hp;refine h2 σ _ _ (.mk (f.stp nv) r0 e1 λps H2 m2 s2 r2 q2=>?_);have hout:=s2.out (r.out hp) gi;have hD:H2 p=aB (.dK []):=s2.keep p _ (r.out hp) gi;refine⟨hD,?_⟩;have e2:(match oq ys with|some kvs=>if Nat.ble kvs.length 15 then Res.ok (W.ref h3.n) (h3.new (A1 kvs))else .no|none=>jF ys h3)=.ok w h':=e2
 cases hk:oq ys with
 |none=>
  rw[hk]at e2;have e5:jF ys h3=.ok w h':=e2;clear e2
  try(rename_i WI;clear WI)
  unfold jF at e5;split at e5;rename_i kw vw;split at e5;rename_i dk hd;cases e5;obtain⟨kv,vv,rfl,q3,q4⟩:=WG q2;obtain⟨b,rfl,kk⟩:=Ba q3 hd;refine .inr ⟨b,dk,vv,rfl,kk,?_⟩;obtain⟨st,r'⟩:=r2.adopt (o:=.dt [kw] [vw]) (u:=mJ [(dk,b,vv)] p) hout hD (λ_ z=>nomatch z) (λ_ _ z=>nomatch z) (nv.trans s2) hp λ_ mv=>⟨[(dk,b,vv)],.inl gi,by simp[aW,hd],.cons (mv q3) .nil,.cons (mv q4) .nil⟩
  refine k _ _ _ st r' ?_;have:aM X.K (λi=>if i=h3.n then p else m2 i) (h3.n+1) (upd H2 p (mJ [(dk,b,vv)] p)) (.ref ((λi=>if i=h3.n then p else m2 i) h3.n)) (.ref h3.n):=.ref (jL _);simp only[b9]at this;exact this;cases e5;cases e5
 |some kws=>
  rw[hk]at e2;have e2:(if Nat.ble kws.length 15 then Res.ok (W.ref h3.n) (h3.new (A1 kws))else .no)=.ok w h':=e2;by_cases hz:Nat.ble kws.length 15=true;rw[if_pos hz]at e2;cases e2;obtain⟨kvs,e3,q3⟩:=Nu q2 hk;refine .inl ⟨kvs,e3,by rw[q3.length];exact lu hz,?_⟩;obtain⟨st,r'⟩:=r2.adopt (o:=A1 kws) (u:=.dK (tT [] kvs)) hout hD (λ_ z=>nomatch z) (λ_ _ z=>nomatch z) (nv.trans s2) hp λ_ mv=>by
   cases kws with|nil=>cases q3;exact⟨[],.inr ⟨rfl,gi⟩,rfl,.nil,.nil⟩|cons k1 kws=>exact⟨_,.inl gi,(q3.merge .nil).map mv⟩
  refine k _ _ _ st r' ?_;have:aM X.K (λi=>if i=h3.n then p else m2 i) (h3.n+1) (upd H2 p (.dK (tT [] kvs))) (.ref ((λi=>if i=h3.n then p else m2 i) h3.n)) (.ref h3.n):=.ref (jL _);simp only[b9]at this;exact this;rw[if_neg hz]at e2;cases e2
theorem WJ:SE X (.Dict [] [] pos) (Bp kQ):=MU.imp λσ H Q z9 p hp=>z9.el λρ h m w h' f r e k=>by
 cases e;exact aU.A2 (ks:=[]) (ws:=[]) (xs:=[]) k r hp (.inr ⟨rfl,rfl⟩) rfl .nil .nil
noncomputable def oA(K:aO)(np:Nat)(g:List W->VH->Res W):Sp:=λvs H Q _=>vs.length=np/\∃h m ws w h',Rel K m h H/\aF K m h.n H vs ws/\g ws h=.ok w h'/\aU K m h.n H w h' Q
theorem WK{k:Nat}{f:ah}{fd:au}{ps:List Str}{g:List W->VH->Res W}(F:fU X.prog X.w X.K X.mg X.base lD k f fd ps (oA X.K ps.length g))(hr:dB k X.A)(hg:Gl X x)(hm:X.mg x=aB (.ref f))(hk:PySem.W.keepIn X.K (.ref f)=true)
 (hb:Binds X.K fd ps []) (ha:SA X (e::es) fa) (hs:(e::es).all iy) (hdb:(x==("__debug__" : Str))=false) (hn:∀ws h w h',g ws h=.ok w h'->ws.length=ps.length):SE X (.Call (.Name x p) (e::es) [] pos) (jH fa g):=by
 rw[mh,bM]at hs;refine(Ma F hr hg hm hk hb .nil nR ha hdb (iK hs.1) (Bl hs.2)).imp λσ H Q q=>yv (G:=λvs H1 Q=>oA X.K ps.length g (vs++[]) H1 Q E0) (λm h H vs xs w h' Q r q e k=>?_) q;rw[pT];exact⟨by rw[q.length];exact hn _ _ _ _ e,h,m,xs,w,h',r,q,e,k⟩
theorem WL{k:Nat}{f:ah}{fd:au}{ps:List Str}{g:List W->VH->Res W}(F:fU X.prog X.w X.K X.mg X.base lD k f fd ps (oA X.K ps.length g))(hr:dB k X.A)(hg:Gl X x)(hm:X.mg x=aB (.ref f))(hk:PySem.W.keepIn X.K (.ref f)=true)
 (hb:Binds X.K fd ps []) (hdb:(x==("__debug__" : Str))=false) (hn:∀ws h w h',g ws h=.ok w h'->ws.length=ps.length):SE X (.Call (.Name x p) [] [] pos) (jH kQ g):=by
 refine(Td F hr hg hm hk hb .nil nR hdb).imp λσ H Q z9=>z9.el λρ h m w h' f r e k=>?_;exact⟨hn _ _ _ _ e,h,m,[],w,h',r,.nil,e,k⟩
theorem WM{k:Nat}{f:ah}{fd:au}{ps:List Str}{g:List W->VH->Res W}(F:fU X.prog X.w X.K X.mg X.base lD k f fd ps (oA X.K ps.length g))(hr:dB k X.A)(hg:Gl X x)(hm:X.mg x=aB (.ref f))(hk:PySem.W.keepIn X.K (.ref f)=true)
 (hb:Binds X.K fd ps [.none]) (ha:SA X (e::es) fa) (hs:(e::es).all iy) (hdb:(x==("__debug__" : Str))=false) (hn:∀ws h w h',g ws h=.ok w h'->ws.length=ps.length):SE X (.Call (.Name x p) (e::es) [] pos) (jH fa λws h=>g (ws++[.aI]) h):=by
 rw[mh,bM]at hs;refine(Ma F hr hg hm hk hb (nP:=[V.aI]) (.cons rfl .nil) nR ha hdb (iK hs.1) (Bl hs.2)).imp λσ H Q q=>yv (G:=λvs H1 Q=>oA X.K ps.length g (vs++[V.aI]) H1 Q E0) (λm h H vs xs w h' Q r q e k=>?_) q;have q':aF X.K m h.n H (vs++[V.aI]) (xs++[W.aI]):=q.append (.cons .aI .nil);exact⟨by rw[q'.length];exact hn _ _ _ _ e,h,m,xs++[W.aI],w,h',r,q',e,k⟩
noncomputable def iL(K:aO)(nx:Nat->VH->Option (Option W))(J:It)(P:(Nat->ah)->Nat->Hp->Prop):Prop:=
 (∀m n H m' n' H',n<=n'->(∀i,i<n->m' i=m i)->(∀b vs,H b=aB (.tup vs)->H' b=aB (.tup vs))->(∀b o u,H b=aB (.bN o u)->H' b=aB (.bN o u))->P m n H->P m' n' H')/\
 ∀m h H,Rel K m h H->P m h.n H->∀i,(∀w,nx i h=aB (aB w)->J.go i H/\∀y H3,J.ym i H y H3->bV m h.n H m h.n H3/\Rel K m h H3/\aM K m h.n H3 y w)/\(nx i h=aB aC->J.stop i H)
noncomputable def eT(K:aO)(kd:Kd)(f:FE):TI:=λσ H R=>∃ρ h m x h',Fr K m h.n H σ ρ/\Rel K m h H/\f ρ h=.ok x h'/\(∃o,bw kd x 0 h'=aB o)/\
 ∀J P H' m',bV m h.n H m' h'.n H'->Rel K m' h' H'->iL K (bw kd x) J P->P m' h'.n H'->R J H'
theorem eT.el{K:aO}{σ:L2.St}{H:Hp}{P:Prop}{kd:Kd}{fa:FE}{R}(q:eT K kd fa σ H R)(k:∀ρ h m x h',Fr K m h.n H σ ρ->Rel K m h H->fa ρ h=.ok x h'->∀o,bw kd x 0 h'=aB o->(∀J P H' m',bV m h.n H m' h'.n H'->Rel K m' h' H'->iL K (bw kd x) J P->P m' h'.n H'->R J H')->P):P:=by obtain⟨ρ,h,m,w,h',f,r,e,⟨o,eo⟩,k'⟩:=q;exact k ρ h m w h' f r e o eo k'
theorem eT.mk{K:aO}{σ:L2.St}{H:Hp}{m:Nat->ah}{ρ:En}{h h':VH}{x:W}{kd:Kd}{fa:FE}{R}(f:Fr K m h.n H σ ρ)(r:Rel K m h H)(e:fa ρ h=.ok x h')(eo:∃o,bw kd x 0 h'=aB o)(k:∀J P H' m',bV m h.n H m' h'.n H'->Rel K m' h' H'->iL K (bw kd x) J P->P m' h'.n H'->R J H'):eT K kd fa σ H R:=⟨ρ,h,m,x,h',f,r,e,eo,k⟩
theorem E4{K:aO}{H H':Hp}{a:ah}{vs:List V}(kt:∀b vs,H b=aB (.tup vs)->H' b=aB (.tup vs))(kf:∀b o u,H b=aB (.bN o u)->H' b=aB (.bN o u))(q:bZ K H a vs):bZ K H' a vs:=by rcases q with(q|⟨o,q⟩)|q;exact .inl (.inl (kt _ _ q));exact .inl (.inr ⟨o,kf _ _ _ q⟩);exact .inr q
theorem Nv{K:aO}{H H':Hp}{a:ah}{vs:List V}(kf:∀b o u,H b=aB (.bN o u)->H' b=aB (.bN o u))(q:Fz K H a vs):Fz K H' a vs:=by rcases q with⟨o,q⟩|q;exact .inl ⟨o,kf _ _ _ q⟩;exact .inr q
theorem yz{ws:List W}{h:VH}{x:W}{i:Nat}{o:Option W}(e:aN h x=aB ws)(q:bw .seq x i h=aB o):ws[i]?=o:=by simp only[bw,e]at q;cases q;rfl
theorem WN{K:aO}{a:ah}{vs:List V}{ws:List W}:iL K (bw .seq (.tup ws)) (G9 K a) (λm n H=>bZ K H a vs/\aF K m n H vs ws):=by refine⟨λm n H m' n' H' hn hm kt kf ⟨q1,q2⟩=>⟨E4 kt kf q1,q2.mono hn hm kt kf⟩,λm h H r ⟨q1,q2⟩ i=>⟨λw e=>?_,λe=>?_⟩⟩;have e:=yz (ws:=ws) rfl e;obtain⟨v,h1,h2⟩:=q2.get e;refine⟨⟨vs,v,q1,h1⟩,λy H3 ⟨e3,y3⟩=>?_⟩;subst e3;have:=y3 vs q1;rw[h1]at this;cases this;exact⟨.refl,r,h2⟩;have e:=yz (ws:=ws) rfl e;exact⟨vs,q1,by rw[q2.length];exact ng.mp e⟩
theorem Bq{K:aO}{a:ah}{vs:List V}{ws:List W}:iL K (bw .seq (.fz ws)) (Es K a) (λm n H=>Fz K H a vs/\aF K m n H vs ws):=by refine⟨λm n H m' n' H' hn hm kt kf ⟨q1,q2⟩=>⟨Nv kf q1,q2.mono hn hm kt kf⟩,λm h H r ⟨q1,q2⟩ i=>⟨λw e=>?_,λe=>?_⟩⟩;have e:=yz (ws:=ws) rfl e;obtain⟨v,h1,h2⟩:=q2.get e;refine⟨⟨vs,v,q1.sq,h1⟩,λy H3 ⟨e3,y3⟩=>?_⟩;subst e3;have:=y3 vs q1.sq;rw[h1]at this;cases this;exact⟨.refl,r,h2⟩;have e:=yz (ws:=ws) rfl e;exact⟨vs,q1.sq,by rw[q2.length];exact ng.mp e⟩
theorem WO{K:aO}{a:ah}{l:Nat}:iL K (bw .seq (.ref l)) (Es K a) (λm n H=>l<n/\a=m l):=by
 refine⟨λm n H m' n' H' hn hm kt kf ⟨q1,q2⟩=>⟨dS q1 hn,by rw[hm l q1];exact q2⟩,λm h H r ⟨q1,q2⟩ i=>?_⟩;subst q2;cases g:h.get l with
 |none=>exact⟨λw e=>by simp[bw,aN,g]at e,λe=>by simp[bw,aN,g]at e⟩
 |some o=>
  cases o with
  |dk _=>exact⟨λw e=>by simp[bw,aN,g]at e,λe=>by simp[bw,aN,g]at e⟩
  |dm _=>exact⟨λw e=>by simp[bw,aN,g]at e,λe=>by simp[bw,aN,g]at e⟩
  |dt _ _=>exact⟨λw e=>by simp[bw,aN,g]at e,λe=>by simp[bw,aN,g]at e⟩
  |lst ws=>
   have hs:aN h (.ref l)=aB ws:=by simp[aN,g]
   obtain⟨vs,p1,p2⟩:=r.lst g;refine⟨λw e=>?_,λe=>?_⟩;have e:=yz hs e;obtain⟨v,h1,h2⟩:=p2.get e;refine⟨⟨vs,v,cN.of p1,h1⟩,λy H3 ⟨e3,y3⟩=>?_⟩;subst e3;have:=y3 vs (cN.of p1);rw[h1]at this;cases this;exact⟨.refl,r,h2⟩;have e:=yz hs e;exact⟨vs,cN.of p1,by rw[p2.length];exact ng.mp e⟩
theorem WQ{K:aO}{kd:Kd}{x:W}{lo:Int}{k:Nat}(hx:∀i h,bw kd x i h=aB (if i<k then aB (.int (lo+i))else aC)):iL K (bw kd x) (Et lo k) (λ_ _ _=>True):=by refine⟨λ_ _ _ _ _ _ _ _ _ _ _=>trivial,λm h H r _ i=>⟨λw e=>?_,λe=>?_⟩⟩;rw[hx]at e;split at e;rename_i hi;cases e;refine⟨hi,λy H3 ⟨e3,y3⟩=>?_⟩;subst e3 y3;exact⟨.refl,r,.int _⟩;cases e;rw[hx]at e;split at e;cases e;rename_i hi;exact jM.mp hi
theorem Ir{tg:ao}(ha:SE X e fa):PI X tg e (eT X.K .seq fa):=λpins s σ H R I z9=>z9.el λρ h m x h' f r ee o en k=>by
 have hs:∃ws,aN h' x=aB ws:=by
  cases z:aN h' x with|none=>simp[bw,z]at en|some ws=>exact⟨ws,rfl⟩
 obtain⟨ws,hs⟩:=hs;cases x<;>try cases hs
 exact Sq ha pins s σ H R I (.mk f r ee λv H' m' s' r' q=>by
  cases q with|tup sq rs=>exact⟨_,rfl,⟨_,sq⟩,k _ _ H' m' s' r' WN ⟨sq,rs⟩⟩)
 exact L4 ha pins s σ H R I (.mk f r ee λv H' m' s' r' q=>by
  cases q with|fz sq rs=>exact⟨_,rfl,⟨_,sq.sq⟩,k _ _ H' m' s' r' Bq ⟨sq,rs⟩⟩)
 rename_i l;exact L4 ha pins s σ H R I (.mk f r ee λv H' m' s' r' q=>by
  obtain⟨p,vs,e1,e2,e3⟩:=yx r' q hs;cases q with
  |ref hi=>
   cases g:h'.get l with
   |none=>simp[aN,g]at hs
   |some ob=>
    cases ob with
    |dk _=>simp[aN,g]at hs
    |dm _=>simp[aN,g]at hs
    |dt _ _=>simp[aN,g]at hs
    |lst Bb=>
     obtain⟨vs',p1,_⟩:=r'.lst g;exact⟨_,rfl,⟨_,cN.of p1⟩,k _ _ H' m' s' r' WO ⟨hi,rfl⟩⟩)
theorem WR{tg:ao}(ha:SA X [e] fa)(hs:iy e)(hg:Gl X "range")(hm:X.mg "range" = aC):PI X tg (.Call (.Name "range" p) [e] [] pos) (eT X.K .fj fa):=λpins s σ H R I z9=>z9.el λρ h m x h' f r ee o en k=>by
 simp only[bw]at en;split at en;rename_i j;split at en;rename_i hf;refine Su hg hm ha (iK hs) pins s σ H R I (.mk f r ee λvs H' m' s' r' q=>?_);obtain⟨v,rfl,q1⟩:=fk q;cases q1;refine⟨_,rfl,(Ih hf).1,(Ih hf).2,k _ _ H' m' s' r' (WQ λi h=>?_) trivial⟩;simp only[bw,hf,b9];split<;>split<;>first|rfl|(exfalso;simp at *;lia)
 cases en;cases en
noncomputable def WS(tl:TE):TI:=λσ H R=>tl σ H λx H1=>∃a kvs,x=.ref a/\((∃ob,H1 a=aB (.bN ob (.dK kvs))/\R (AL a ob kvs) H1)\/(H1 a=aB (.dK kvs)/\∀ob,R (AL a ob kvs) (upd H1 a (.bN ob (.dK kvs)))))
theorem WT{tg l:ao}{tl:TE}(hl:PE X l tl):PI X tg l (WS tl):=by
 intro pins s σ H R I h;refine bG (hl pins s σ H _ I h) λv s1 dU=>?_;obtain⟨x,H1,I1,r1,q1⟩:=dU;obtain⟨a,kvs,e,q⟩:=q1;subst e;cases r1;have key:∀(H2:Hp)(ob:Obj),Inv X pins σ H2 s1->H2 a=aB (.bN ob (.dK kvs))->R (AL a ob kvs) H2->wpAny (model X.prog X.w) X.A (pyIter (.ref a)) (λitv s2=>Er X pins σ tg R itv s2) X.xe s1:=by
  intro H2 ob I2 e0 q2;obtain⟨e1,z,y,vs,r,o',es,ep,e2,c1,c2,c3,c4,c5⟩:=(show aZ X.prog X.w H2 s1.heap a (.bN ob (.dK kvs))from I2.hok a _ e0)
  rw[e1]at e2;cases e2;refine wpAny_pyIter_dict (knd:=iD X.prog X.w) y ⟨ob,es,e1,c1,c2,c3,c4,c5⟩ ?_;have hlen:=r.length;refine⟨s1.heap.objs.size,[s1.heap.objs.size],_,_,H2,rfl,I2.kept (t':=s1.toks) λb o e=>dH _ e,Vf (kvs:=kvs) c2 (fB (cP e1)),⟨_,gh _ rfl,rfl,by rw[hlen];rfl⟩,λb hb=>?_,q2⟩;have e:b=s1.heap.objs.size:=by simpa using hb
  subst e;exact I2.jT (bq _) (I2.hok.fresh (bq _))
 rcases q with⟨ob,e0,q⟩|⟨e0,q⟩;exact key H1 ob I1 e0 q;obtain⟨ob,I2⟩:=I1.freeze e0;exact key _ ob I2 gi (q ob)
theorem aS.key{K:aO}{m:Nat->ah}{n:Nat}{H:Hp}:∀{vs:List (Key×V)} {ws:List (Key×W)} (i:Nat),aS K m n H vs ws->(vs[i]?).map (·.1)=(ws[i]?).map (·.1)|_,_,_,.nil=>rfl|_,_,0,.cons _ _=>rfl|_,_,i+1,.cons _ r=>by simpa using aS.key i r
theorem WU{K:aO}{m:Nat->ah}{n:Nat}{H:Hp}(k:Key):aM K m n H (kV k) (cX k):=by rcases k with i|_|x;exact .int _;exact .aI;exact .str _
theorem Nx{K:aO}{a:ah}{l:Nat}{ob:Obj}{kv:List (Key×V)}:iL K (bw .keys (.ref l)) (AL a ob kv) (λm n H=>l<n/\a=m l/\H a=aB (.bN ob (.dK kv))):=by
 refine⟨λm n H m' n' H' hn hm kt kf ⟨q1,q2,q3⟩=>⟨dS q1 hn,by rw[hm l q1];exact q2,kf _ _ _ q3⟩,λm h H r ⟨q1,q2,q3⟩ i=>?_⟩;subst q2;cases g:h.get l with
 |none=>exact⟨λw e=>by simp[bw,g]at e,λe=>by simp[bw,g]at e⟩
 |some o=>
  cases o with
  |lst _=>exact⟨λw e=>by simp[bw,g]at e,λe=>by simp[bw,g]at e⟩
  |dt _ _=>exact⟨λw e=>by simp[bw,g]at e,λe=>by simp[bw,g]at e⟩
  |dm _=>exact⟨λw e=>by simp[bw,g]at e,λe=>by simp[bw,g]at e⟩
  |dk ws=>
   obtain⟨vs,p1,p2⟩:=r.dk g;have hv:vs=kv:=by rcases p1 with p1|⟨o,p1⟩;rw[q3]at p1;cases p1;rw[q3]at p1;cases p1;rfl
   subst hv;have hk:=p2.key i;refine⟨λw e=>?_,λe=>?_⟩;simp only[bw,g]at e;cases z:ws[i]? with
   |none=>
    rw[z]at e;simp only at e;split at e<;>cases e
   |some p=>
    rw[z]at e hk;simp only[dO,vj]at e hk;subst e;cases z2:vs[i]? with
    |none=>rw[z2]at hk;cases hk
    |some q=>
     rw[z2]at hk;simp only[dO,vj]at hk;refine⟨⟨q3,(jK.mp z2).1⟩,λy H3 ⟨e3,k3,v3,e4,e5⟩=>?_⟩;subst e3 e5;rw[z2]at e4;cases e4;rw[<-hk];exact⟨.refl,r,WU _⟩
   simp only[bw,g]at e;cases z:ws[i]? with
   |some p=>rw[z]at e;cases e
   |none=>
    rw[z]at e;simp only at e;split at e;rename_i hb;exact⟨q3,by rw[p2.length];exact zm hb⟩;cases e
theorem Rel.frozen{K:aO}{m:Nat->ah}{h:VH}{H:Hp}(r:Rel K m h H){i:Nat}{o:VO}{u u0:HO}(hi:h.get i=aB o)(h0:H (m i)=aB u0)(hn:∀t,u0≠.tup t)(hf:∀o t,u0≠.bN o t)
 (ho:bV m h.n H m h.n (upd H (m i) u)->fW K m h.n (upd H (m i) u) (m i) o) :
 bV m h.n H m h.n (upd H (m i) u)/\Rel K m h (upd H (m i) u):=by
 have st:bV m h.n H m h.n (upd H (m i) u):=by refine⟨bq _,λ_ _=>rfl,λj a b=>absurd b (jM.mpr a),λj k a b=>absurd b (jM.mpr a),λb vs q=>?_,λb o t q=>?_,λb o nb q=>?_⟩;rw[bQ (dI q h0 (λz=>hn vs z.symm))];exact q;rw[bQ (dI q h0 (λz=>hf o t z.symm))];exact q;rw[bQ (nb i (cK hi)).symm];exact q
 refine⟨st,⟨λj hj=>?_,r.inj,r.len⟩⟩;by_cases e:j=i;subst e;exact⟨o,hi,ho st⟩;obtain⟨o',h1,h2⟩:=r.obj j hj;exact⟨o',h1,fW.stp st (bQ λz=>e (r.inj j i hj (cK hi) z)) h2⟩
theorem Ny{tg:ao}(ha:SE X e fa):PI X tg e (eT X.K .keys fa):=λpins s σ H R I z9=>z9.el λρ h m x h' f r ee o en k=>by
 have hs:∃l kvs,x=.ref l/\h'.get l=aB (.dk kvs):=by simp only[bw]at en;split at en;rename_i l;split at en;exact⟨_,_,rfl,by assumption⟩;cases en;cases en
 obtain⟨l,kvs,rfl,g⟩:=hs;refine WT ha pins s σ H R I (.mk f r ee λv H' m' s' r' q=>?_);cases q with
 |ref hi=>
  obtain⟨vs,p1,p2⟩:=r'.dk g;refine⟨m' l,vs,rfl,?_⟩;rcases p1 with p1|⟨ob,p1⟩;refine .inr ⟨p1,λob=>?_⟩;obtain⟨st,r2⟩:=r'.frozen (u:=.bN ob (.dK vs)) g p1 (λ_ z=>nomatch z) (λ_ _ z=>nomatch z) λst=>⟨vs,.inr ⟨ob,gi⟩,p2.stp st⟩
  exact k _ _ _ m' (s'.trans st) r2 Nx ⟨hi,rfl,gi⟩;exact .inl ⟨ob,p1,k _ _ H' m' s' r' Nx ⟨hi,rfl,p1⟩⟩
theorem WV{elts:List ao}{kx:Nat}{tp:Pos}{l:ao}{ta:TA}(hg:Gl X "enumerate")(hm:X.mg "enumerate" = aC)(hv:bootBuiltins "enumerate" = aB (.type "enumerate"))(ha:PA X [l] ta)(hs:starEach [l] X.env=[(false,eval l X.env)]) :
 PI X (.Tuple elts kx tp) (.Call (.Name "enumerate" p) [l] [] pos) (λσ H R=>ta σ H λvs H1=>∃a,vs=[.ref a]/\(∃xs,bZ X.K H1 a xs)/\R (vM X.K a) H1):=by
 intro pins s σ H R I h;refine Call_ (vA I hg hm hv (zq (bG (ha pos pins s σ H _ I h) λus s1 ⟨vs,H1,I1,r1,q1⟩=>?_) hs rfl));obtain⟨a,e,⟨xs,hq⟩,q⟩:=q1;subst e;obtain⟨u,rfl,ru⟩:=vals1 r1;cases ru;obtain⟨its,rv,pl,hz⟩:=I1.tuple hq;have pl:s1.heap.IsTuple a its.toArray:=pl;have hlt:a<s1.heap.objs.size:=by obtain⟨o,q,_⟩:=pl;exact cP q
 refine UC pl λh' he hit hsz kk=>wpAny_pyIter_enum he ?_;have hf:∀b,s1.heap.objs.size<=b->fT X pins H1 b:=λb hb=>I1.jT hb (I1.hok.fresh hb);refine⟨s1.heap.objs.size+1,[s1.heap.objs.size+1,s1.heap.objs.size],_,_,H1,rfl,I1.kept (t':=s1.toks) kk,UD a _ _ (mj (jL _)) (fB (tD hlt)) (fB hlt),⟨⟨_,he⟩,hit⟩,λb hb=>hf b ?_,q⟩;rcases eV.mp hb with rfl|hb
 exact ly _;have e':b=s1.heap.objs.size:=by simpa using hb
 rw[e'];exact bq _
theorem Nz{ws:List W}{h:VH}{i:Nat}{o:Option W}(q:bw .p5 (.tup ws) i h=aB o):o=(ws[i]?).map λw=>.tup [.int i,w]:=by cases q;rfl
theorem WW{K:aO}{a:ah}{vs:List V}{ws:List W}:iL K (bw .p5 (.tup ws)) (vM K a) (λm n H=>bZ K H a vs/\aF K m n H vs ws):=by
 refine⟨λm n H m' n' H' hn hm kt kf ⟨q1,q2⟩=>⟨E4 kt kf q1,q2.mono hn hm kt kf⟩,λm h H r ⟨q1,q2⟩ i=>⟨λw e=>?_,λe=>?_⟩⟩;have e:=Nz (ws:=ws) e;cases z:ws[i]? with
 |none=>rw[z]at e;cases e
 |some w0=>
  rw[z]at e;cases e;obtain⟨v,h1,h2⟩:=q2.get z;refine⟨⟨vs,v,q1,h1⟩,λy H3 ⟨T,v3,e1,e2,e3,y3⟩=>?_⟩;subst e1 e3;have:=y3 vs q1;rw[h1]at this;cases this;obtain⟨st,r'⟩:=r.more (u:=.tup [.int i,v]) e2;exact⟨st,r',.tup (bZ.of gi) (.cons (.int _) (.cons (h2.stp st) .nil))⟩
 have e:=Nz (ws:=ws) e;cases z:ws[i]? with|some w0=>rw[z]at e;cases e|none=>exact⟨vs,q1,by rw[q2.length];exact ng.mp z⟩
theorem WX:bootBuiltins "enumerate" = aB (.type "enumerate"):=by decide +kernel
theorem NB(ha:SE X e fa)(hs:iy e):PA X [e] (λσ H Q=>iI X.K fa σ H λv H1=>Q [v] H1):=λp pins s σ H Q I q=>by
 refine Ac ha Ez (iK hs) p pins s σ H Q I ?_;refine q.el λρ h m w h' f r ee k=>?_;exact(.mk f r ee λv H' m' s' r' q'=>k v H' m' s' r' q')
theorem WY{elts:List ao}{kx:Nat}{tp:Pos}(ha:SE X e fa)(hs0:iy e)(hg:Gl X "enumerate")(hm:X.mg "enumerate" = aC):PI X (.Tuple elts kx tp) (.Call (.Name "enumerate" p) [e] [] pos) (eT X.K .p5 fa):=λpins s σ H R I z9=>z9.el λρ h m x h' f r ee o en k=>by
 cases x with
 |tup ws=>exact WV hg hm WX (NB ha hs0) (iK hs0) pins s σ H R I ⟨ρ,h,m,_,h',f,r,ee,λv H' m' s' r' q=>by
  cases q with|tup sq rs=>exact⟨_,rfl,⟨_,sq⟩,k _ _ H' m' s' r' WW ⟨sq,rs⟩⟩⟩
 |_=>cases en
theorem WZ{elts:List ao}{kx:Nat}{tp:Pos}{l l2:ao}{ta:TA}(hg:Gl X "zip")(hm:X.mg "zip" = aC)(ha:PA X [l,l2] ta)(hs:starEach [l,l2] X.env=[(false,eval l X.env),(false,eval l2 X.env)])(hs2:starEach [l2] X.env=[(false,eval l2 X.env)]) :
 PI X (.Tuple elts kx tp) (.Call (.Name "zip" p) [l,l2] [] pos) (λσ H R=>ta σ H λvs H1=>∃b c a1 a2,vs=[.ref a1,.ref a2]/\(∃xs,mH b X.K H1 a1 xs)/\(∃ys,mH c X.K H1 a2 ys)/\R (vO X.K b c a1 a2) H1):=by
 intro pins s σ H R I h;refine Call_ (vA I hg hm PyProof.Rows.boot_zip (zq (bG (ha pos pins s σ H _ I h) λus s1 ⟨vs,H1,I1,r1,q1⟩=>?_) (by rw[hs,hs2]) (by rw[hs2];rfl)));obtain⟨b,c,a1,a2,e,⟨xs,hq⟩,⟨ys,hr⟩,q⟩:=q1;subst e;cases r1 with
 |cons r rr=>
  cases rr with
  |cons r' rr=>
   cases rr;cases r;cases r';obtain⟨its,_,pl,_⟩:=yq I1 hq;obtain⟨M1,_,NC,_⟩:=yq I1 hr;refine U' pl NC λh' e1 e2 e3 e4 e5 hsz kk=>wpAny_pyIter_zip e1 ?_;have hf:∀b,s1.heap.objs.size<=b->fT X pins H1 b:=λb hb=>I1.jT hb (I1.hok.fresh hb);refine⟨s1.heap.objs.size+4,_,_,_,H1,rfl,I1.kept (t':=s1.toks) kk,Va a1 a2 _ _ _ _ _ (UX pl.lt NC.lt),⟨e1,e2,⟨_,_,e3⟩,e4,e5⟩,λb hb=>hf b ?_,q⟩;simp only[eV,nG,ny]at hb;rcases hb with rfl|rfl|rfl|rfl|rfl
   exact xV _ _;exact xV _ _;exact xV _ _;exact bq _;exact xV _ _
noncomputable def Src(K:aO)(b:Bool)(a:ah)(u:W)(P:(Nat->ah)->Nat->Hp->Prop):Prop:=
 (∀m n H m' n' H',n<=n'->(∀i,i<n->m' i=m i)->(∀b vs,H b=aB (.tup vs)->H' b=aB (.tup vs))->(∀b o u,H b=aB (.bN o u)->H' b=aB (.bN o u))->P m n H->P m' n' H')/\
 ∀m h H ws,Rel K m h H->P m h.n H->aN h u=aB ws->∃vs,mH b K H a vs/\aF K m h.n H vs ws
theorem ND{K:aO}{m:Nat->ah}{h:VH}{H:Hp}{v:V}{u:W}{ws:List W}(r:Rel K m h H)(q:aM K m h.n H v u)(e:aN h u=aB ws):∃b a P,v=.ref a/\Src K b a u P/\P m h.n H/\∃xs,mH b K H a xs:=by
 cases q with
 |aI=>cases e
 |bl b=>cases e
 |int b=>cases e
 |str b=>cases e
 |tup sq rs=>exact⟨true,_,λm n H=>bZ K H _ _/\aF K m n H _ _,rfl,⟨λm n H m' n' H' hn hm kt kf ⟨q1,q2⟩=>⟨E4 kt kf q1,q2.mono hn hm kt kf⟩,λm h H ws _ ⟨q1,q2⟩ z=>by cases z;exact⟨_,q1,q2⟩⟩,⟨sq,rs⟩,_,sq⟩
 |fz sq rs=>exact⟨false,_,λm n H=>Fz K H _ _/\aF K m n H _ _,rfl,⟨λm n H m' n' H' hn hm kt kf ⟨q1,q2⟩=>⟨Nv kf q1,q2.mono hn hm kt kf⟩,λm h H ws _ ⟨q1,q2⟩ z=>by cases z;exact⟨_,q1.sq,q2⟩⟩,⟨sq,rs⟩,_,sq.sq⟩
 |ref hi=>
  rename_i l;have key:∀m (h:VH) H ws,Rel K m h H->aN h (.ref l)=aB ws->∃vs,H (m l)=aB (.lst vs)/\aF K m h.n H vs ws:=λm h H ws r z=>by
   cases g:h.get l with
   |none=>simp[aN,g]at z
   |some o=>
    cases o with
    |dk _=>simp[aN,g]at z
    |dm _=>simp[aN,g]at z
    |dt _ _=>simp[aN,g]at z
    |lst Bb=>
     have:Bb=ws:=by simpa[aN,g]using z
     subst this;exact r.lst g
  obtain⟨vs,p1,_⟩:=key m h H ws r e;refine⟨false,_,λm' n _=>l<n/\m l=m' l,rfl,⟨λm1 n H m' n' H' hn hm kt kf ⟨q1,q2⟩=>⟨dS q1 hn,by rw[hm l q1];exact q2⟩,λm1 h H ws r' ⟨q1,q2⟩ z=>?_⟩,⟨hi,rfl⟩,vs,cN.of p1⟩;obtain⟨vs,g1,g2⟩:=key m1 h H ws r' z;rw[q2];exact⟨vs,cN.of g1,g2⟩
theorem Iu{u v:W}{h:VH}{i:Nat}{o:Option W}(q:bw .zip (.tup [u,v]) i h=aB o):∃ws zs,aN h u=aB ws/\aN h v=aB zs/\o=(match ws[i]?,zs[i]? with|some a,aB b=>aB (.tup [a,b])|_,_=>aC):=by simp only[bw]at q;split at q;rename_i ws zs h1 h2;cases q;exact⟨ws,zs,h1,h2,rfl⟩;cases q
theorem W0{K:aO}{b c:Bool}{a1 a2:ah}{u v:W}{P1 P2:(Nat->ah)->Nat->Hp->Prop}(s1:Src K b a1 u P1)(s2:Src K c a2 v P2):iL K (bw .zip (.tup [u,v])) (vO K b c a1 a2) (λm n H=>P1 m n H/\P2 m n H):=by
 refine⟨λm n H m' n' H' hn hm kt kf ⟨q1,q2⟩=>⟨s1.1 m n H m' n' H' hn hm kt kf q1,s2.1 m n H m' n' H' hn hm kt kf q2⟩,λm h H r ⟨q1,q2⟩ i=>⟨λw e=>?_,λe=>?_⟩⟩;obtain⟨ws,zs,e1,e2,e3⟩:=Iu e;obtain⟨xs,g1,g2⟩:=s1.2 m h H ws r q1 e1;obtain⟨ys,g3,g4⟩:=s2.2 m h H zs r q2 e2;cases z1:ws[i]? with
 |none=>rw[z1]at e3;cases e3
 |some w1=>
  cases z2:zs[i]? with
  |none=>rw[z1,z2]at e3;cases e3
  |some w2=>
   rw[z1,z2]at e3;cases e3;obtain⟨v1,k1,k2⟩:=g2.get z1;obtain⟨v2,k3,k4⟩:=g4.get z2;refine⟨⟨xs,ys,v1,v2,g1,g3,k1,k3⟩,λy H3 ⟨T,x3,y3,f1,f2,f3,f4,f5⟩=>?_⟩;subst f1 f3;have t1:=f4 xs g1;have t2:=f5 ys g3;rw[k1]at t1;cases t1;rw[k3]at t2;cases t2;obtain⟨st,r'⟩:=r.more (u:=.tup [v1,v2]) f2;exact⟨st,r',.tup (bZ.of gi) (.cons (k2.stp st) (.cons (k4.stp st) .nil))⟩
 obtain⟨ws,zs,e1,e2,e3⟩:=Iu e;obtain⟨xs,g1,g2⟩:=s1.2 m h H ws r q1 e1;obtain⟨ys,g3,g4⟩:=s2.2 m h H zs r q2 e2;refine⟨xs,ys,g1,g3,?_⟩;cases z1:ws[i]? with
 |none=>exact .inl (by rw[g2.length];exact ng.mp z1)
 |some w1=>
  cases z2:zs[i]? with|none=>exact .inr (by rw[g4.length];exact ng.mp z2)|some w2=>rw[z1,z2]at e3;cases e3
theorem W2{elts:List ao}{kx:Nat}{tp:Pos}(ha:SA X [a,b] fa)(hs:iy a)(hs2:iy b)(hg:Gl X "zip")(hm:X.mg "zip" = aC):PI X (.Tuple elts kx tp) (.Call (.Name "zip" p) [a,b] [] pos) (eT X.K .zip fa):=λpins s σ H R I z9=>z9.el λρ h m x h' f r ee o en k=>by
 have hx:∃u v,x=.tup [u,v]:=by simp only[bw]at en;split at en;exact⟨_,_,rfl⟩;cases en
 obtain⟨u,v,rfl⟩:=hx;obtain⟨ws,zs,e1,e2,_⟩:=Iu en;refine WZ hg hm ha (by rw[iK hs,iK hs2];rfl) (iK hs2) pins s σ H R I (.mk f r ee λvs H' m' s' r' q=>?_);obtain⟨v1,v2,rfl,q1,q2⟩:=j8 q;obtain⟨b1,a1,P1,rfl,o1,p1,x1⟩:=ND r' q1 e1;obtain⟨b2,a2,P2,rfl,o2,p2,x2⟩:=ND r' q2 e2;exact⟨b1,b2,a1,a2,rfl,x1,x2,k _ _ H' m' s' r' (W0 o1 o2) ⟨p1,p2⟩⟩
end
section
variable{X:Cx}{a b c e o:ao}{es:List ao}{fa fb fc fo fr:FE}{pos p:Pos}{x:Str}
noncomputable def gy(K:aO)(t:Tg):TG:=λv σ H Q=>∃ρ h m w ρ',Fr K m h.n H σ ρ/\Rel K m h H/\aM K m h.n H v w/\bz t w h ρ=aB ρ'/\∀σ',Fr K m h.n H σ' ρ'->Q σ' H
theorem gy.el{K:aO}{v:V}{σ:L2.St}{H:Hp}{P:Prop}{tg:Tg}{Q}(q:gy K tg v σ H Q)(k:∀ρ h m w ρ',Fr K m h.n H σ ρ->Rel K m h H->aM K m h.n H v w->bz tg w h ρ=aB ρ'->(∀σ',Fr K m h.n H σ' ρ'->Q σ' H)->P):P:=by obtain⟨ρ,h,m,w,h',f,r,e,eo,k'⟩:=q;exact k ρ h m w h' f r e eo k'
theorem gy.mk{K:aO}{v:V}{σ:L2.St}{H:Hp}{m:Nat->ah}{ρ ρ':En}{h:VH}{w:W}{tg:Tg}{Q}(f:Fr K m h.n H σ ρ)(r:Rel K m h H)(e:aM K m h.n H v w)(eo:bz tg w h ρ=aB ρ')(k:∀σ',Fr K m h.n H σ' ρ'->Q σ' H):gy K tg v σ H Q:=⟨ρ,h,m,w,ρ',f,r,e,eo,k⟩
theorem NF{i:Nat}(hN:X.N.Nodup)(hi:X.N[i]?=aB x)(hx:Loc X.env.scope x)(hf:X.fn x=true\/X.env.scope.names.lookup x=aB .local):PG X (.Name x pos) (gy X.K (.one i)):=λpins s σ H v u Q I ru z9=>z9.el λρ h m w ρ' f r q e k=>by
 cases e;exact LV hN hi hx hf pins s σ H v u Q I ru (k _ (f.set q i))
noncomputable def kR(X:Cx)(e:ao)(i:Nat):Prop:=∃x p,e=.Name x p/\X.N[i]?=aB x/\Loc X.env.scope x/\(X.fn x=true\/X.env.scope.names.lookup x=aB .local)
noncomputable def Br(K:aO)(is:List Nat):qL:=λvs σ H Q=>∃ρ m n ws ρ',Fr K m n H σ ρ/\aF K m n H vs ws/\gM is ws ρ=aB ρ'/\∀σ',Fr K m n H σ' ρ'->Q σ' H
theorem NG(hN:X.N.Nodup):∀{es:List ao} {is:List Nat},Paired (kR X) es is->yl X es (Br X.K is)/\(assignEach es X.env).length=es.length/\(assignEach es X.env).findIdx? (·.1)=aC
 |_,_,.nil=>by
  refine⟨λpins s σ H vs us Q I ru ⟨ρ,m,n,ws,ρ',f,q,e,k⟩=>?_,rfl,rfl⟩;cases ws with|nil=>cases e;cases q;exact LW pins s σ H [] us Q I ru ⟨rfl,k _ f⟩|cons _ _=>cases e
 |e::es,i::is,.cons ⟨x,p,he,hi,hx,hf⟩ t=>by
  subst he;obtain⟨h1,h2,h3⟩:=NG hN t;refine⟨λpins s σ H vs us Q I ru ⟨ρ,m,n,ws,ρ',f,q,e,k⟩=>?_,?_,?_⟩;cases q with
  |nil=>cases e
  |cons q qs=>
   exact G5 (LV hN hi hx hf) h1 rfl pins s σ H _ us Q I ru ⟨_,_,rfl,ρ.set i (aB _),m,n,_,ρ',f.set q i,qs,e,k⟩
  show(assignEach es X.env).length+1=es.length+1;rw[h2];show List.findIdx? _ ((false,_)::assignEach es X.env)=aC;rw[List.findIdx?_cons,h3];rfl
theorem NH:∀{is:List Nat} {ws:List W} {ρ ρ':En},gM is ws ρ=aB ρ'->ws.length=is.length
 |[],[],_,_,_=>rfl
 |[],_::_,_,_,e=>by cases e
 |_::_,[],_,_,e=>by cases e
 |_::_,_::_,_,_,e=>by
  rw[dG,dG,NH (by simpa only[gM]using e)]
theorem W3{t:qL}{n k:Nat}(hc:X.calm)(h:yl X es t)(hn:(assignEach es X.env).length=n)(hst:(assignEach es X.env).findIdx? (·.1)=aC) :
 PG X (.Tuple es k pos) (λv σ H Q=>∃a xs,v=.ref a/\cN X.K H a xs/\xs.length=n/\t xs σ H Q):=by
 intro pins s σ H v u Q I r hw;obtain⟨a,xs,rfl,hq,hl,hw⟩:=hw;cases r;obtain⟨its,rv,ht,hz⟩:=I.list hq;rw[assign_Tuple];refine aJ (Dt ?_);unfold unpack;have hsz:(assignEach es X.env).length=its.toArray.size:=by rw[hn,<-hl,rv.length,eY]
 rw[hst,hsz];refine aJ (nA (PySem.W.kun_itemsOf (I.ok.hd hc) ht.isList λh' hx=>?_));have I1:Inv X pins σ H {s with heap:=h'}:=I.kept (t':=s.toks) λb o e=>hx b o (fB (cP e)) e;exact h pins _ σ H xs _ Q I1 (by simpa using rv) hw
theorem Iv{is:List Nat}{k:Nat}(hc:X.calm)(hN:X.N.Nodup)(hs:Paired (kR X) es is):PG X (.Tuple es k pos) (gy X.K (.many is)):=λpins s σ H v u Q I ru z9=>z9.el λρ h m w ρ' f r q e k=>by
 obtain⟨h1,h2,h3⟩:=NG hN hs;simp only[bz]at e;cases z:aN h w with
 |none=>rw[z]at e;cases e
 |some ws=>
  rw[z]at e;have e:gM is ws ρ=aB ρ':=e;obtain⟨p,vs,rfl,hq,qs⟩:=yx r q z;have hl:vs.length=es.length:=by rw[qs.length,NH e,hs.length]
  rcases hq with hq|hq;exact W3 hc h1 h2 h3 pins s σ H _ u Q I ru ⟨p,vs,rfl,hq,hl,ρ,m,h.n,ws,ρ',f,qs,e,k⟩;exact LX hc h1 h2 h3 pins s σ H _ u Q I ru ⟨p,vs,rfl,hq,hl,ρ,m,h.n,ws,ρ',f,qs,e,k⟩
theorem W4{is:List Nat}{j k k':Nat}{p':Pos}{en:ao}(hc:X.calm)(hN:X.N.Nodup)(hs:Paired (kR X) es is)(hj:kR X en j):PG X (.Tuple [.Tuple es k' p',en] k pos) (gy X.K (.two is j)):=λpins s σ H v u Q I ru z9=>z9.el λρ h m w ρ' f r q e kk=>by
 obtain⟨x,px,rfl,g1,g2,g3⟩:=hj;simp only[bz]at e;split at e;rename_i wa wb;cases z:aN h wa with
 |none=>rw[z]at e;cases e
 |some ws=>
  rw[z]at e;dsimp only at e;cases z2:gM is ws ρ with
  |none=>rw[z2]at e;cases e
  |some jI=>
   rw[z2]at e;cases e;cases q with
   |tup s1 s2=>
    obtain⟨va,vb,rfl,q1,q2⟩:=j8 s2;refine LX hc (G5 (Iv hc hN hs) (G5 (NF hN g1 g2 g3) LW)) rfl rfl pins s σ H _ u Q I ru ⟨_,_,rfl,s1,rfl,va,[vb],rfl,?_⟩;refine .mk f r q1 (show bz (.many is) wa h ρ=aB jI by simp only[bz,z];exact z2) λσ1 f1=>?_;refine⟨vb,[],rfl,.mk f1 r q2 rfl λσ2 f2=>?_⟩;exact⟨rfl,kk σ2 f2⟩
 cases e
theorem W5{K:aO}{m:Nat->ah}{n:Nat}{H:Hp}{σ:L2.St}{ρ:En}{ow fr:List Str}{ix:List Nat}(f:Fr K m n H σ ρ):Fr K m n H (mD ow fr ix σ) (inner ow.length ix ρ):=by
 unfold mD inner;refine⟨by simp,λi w e=>?_⟩;by_cases hi:i<ow.length;rw[nC (by simpa using hi)]at e;rw[zd]at e;split at e<;>cases e;rw[kI (by simpa using jM.mp hi)]at e;rw[kI (by simpa using jM.mp hi)];simp only[ze,bF]at e ⊢;rw[iC]at e ⊢;cases z:ix[i-ow.length]? with
 |none=>rw[z]at e;cases e
 |some j=>
  rw[z]at e;simp only[dO,vj]at e ⊢;have e3:ρ[j]?=aB (aB w):=by
   cases q:ρ[j]? with|none=>rw[q]at e;cases e|some o=>rw[q]at e;rw[<-e];rfl
  obtain⟨v,h1,h2⟩:=f.val j w e3;exact⟨v,by rw[h1];rfl,h2⟩
theorem Iw{nx:Nat->VH->Option (Option W)}{tg:W->VH->En->Option En}{c e:FE}:∀{f i:Nat} {ρ:En} {h:VH} {acc ys:List W} {h':VH},eG nx tg c e f i ρ h acc=.ok ys h'->acc.length<=ys.length
 |0,_,_,_,_,_,_,q=>by cases q
 |f+1,i,ρ,h,acc,ys,h',q=>by
  simp only[eG]at q;split at q;cases q;cases q;simp;split at q;cases q;refine cg q λb h1 e1 e2=>?_;split at e2;refine cg e2 λy h2 e3 e4=>?_;have:=Iw e4;rw[dG]at this;lia;exact Iw e2;cases e2
theorem W6{nx:Nat->VH->Option (Option W)}{tg:W->VH->En->Option En}{c e:FE}{f i:Nat}{ρ:En}{h:VH}{acc ys:List W}{h':VH}(q:eG nx tg c e (f+1) i ρ h acc=.ok ys h'):∃o,nx i h=aB o:=by simp only[eG]at q;split at q;cases q;exact⟨_,by assumption⟩;exact⟨_,by assumption⟩
theorem W7{H:Hp}{a:ah}{o:HO}(h:H a=aB o):upd H a o=H:=by funext b;unfold upd;split;rename_i e;rw[e,h];rfl
noncomputable abbrev Iz(kd:Kd)(fa:FE)(t:Tg)(ow:Nat)(ix:List Nat)(fc fe:FE):FE:=λρ h=>(fa ρ h).bind λx h=>(eG (bw kd x) (bz t) fc fe fuel 0 (inner ow ix ρ) h []).bind λys h=>if Nat.ble ys.length big then .ok (.ref h.n) (h.new (.lst ys))else .no
theorem t7{K:aO}{kd:Kd}{t:Tg}{ow fr:List Str}{ix:List Nat}{fe:FE}{σ:L2.St}{H:Hp}{Q:VK}(q:iI K (Iz kd fa t ow.length ix fc fe) σ H Q):HC K (mD ow fr ix) (eT K kd fa) (gy K t) (gY K fc) (iI K fe) σ H Q:=by
 refine q.el λρ h m w h' f r e k=>?_;refine cg e λx h1 e1 e2=>?_;refine cg e2 λys h2 e3 e4=>?_;split at e4
 case isFalse=>cases e4
 rename_i hz;cases e4;have hz:=lu hz;refine(.mk f r e1 ?_ λJ P H1 m1 s1 r1 J1 p1 D hD hK=>?_);exact W6 (f:=999999) e3;obtain⟨nv,r0⟩:=r1.more (u:=.lst []) hD;have p0:=J1.1 m1 h1.n H1 m1 h1.n (upd H1 D (.lst [])) (bq _) (λ_ _=>rfl) (λb vs q=>nv.tup b vs q) (λb o u q=>nv.bN b o u q) p1;refine⟨λi fl σ' H' vs=>∃ρ' h3 m3 acc,eG (bw kd x) (bz t) fc fe fl i ρ' h3 acc=.ok ys h2/\Fr K m3 h3.n H' σ' ρ'/\Rel K m3 h3 H'/\H' D=aB (.lst vs)/\aF K m3 h3.n H' vs acc.reverse/\(∀i,i<h3.n->m3 i≠D)/\bV m1 h1.n H1 m3 h3.n H'/\P m3 h3.n H',
  ⟨fuel,inner ow.length ix ρ,h1,m1,[],e3,W5 ((f.stp s1).stp nv),r0,gi,.nil,r1.out hD,nv,p0⟩,?_⟩
 rintro i fl σ' H' vs ⟨ρ',h3,m3,acc,e5,f3,r3,d3,q3,o3,s3,p3⟩;refine⟨d3,?_⟩;cases fl with
 |zero=>cases e5
 |succ fl=>
  simp only[eG]at e5;obtain⟨j1,j2⟩:=J1.2 m3 h3 H' r3 p3 i;split at e5;cases e5;rename_i hn;cases e5;refine .inl ⟨j2 hn,?_⟩;obtain⟨st,r'⟩:=r3.adopt (o:=.lst acc.reverse) (u:=.lst vs) o3 d3 (λ_ z=>nomatch z) (λ_ _ z=>nomatch z) (s1.trans s3) (by
   cases z:H D with
   |none=>rfl
   |some o=>
    have:=s1.keep D o (λi hi z2=>(r1.out hD) i (dS hi s1.le) ((s1.same i hi).trans z2)) z;rw[hD]at this;cases this) λ_ mv=>⟨_,gi,q3.map mv⟩
  rw[W7 d3]at st r';refine k _ _ _ st r' ?_;have:aM K (λi=>if i=h2.n then D else m3 i) (h2.n+1) H' (.ref ((λi=>if i=h2.n then D else m3 i) h2.n)) (.ref h2.n):=.ref (jL _);simp only[b9]at this;exact this;rename_i w hn;obtain⟨j3,j4⟩:=j1 w hn;refine .inr ⟨j3,λy H4 hy=>?_⟩;obtain⟨s4,r4,q4⟩:=j4 y H4 hy;split at e5;cases e5;rename_i Bt ht;refine⟨ρ',h3,m3,w,Bt,f3.stp s4,r4,q4,ht,λyp f5=>?_⟩;refine cg e5 λbv h6 e6 e7=>?_;have d4:H4 D=aB (.lst vs):=s4.keep D _ o3 d3;have NI:=s3.trans s4;have p4:=J1.1 m3 h3.n H' m3 h3.n H4 (bq _) (λ_ _=>rfl) (λb vs q=>s4.tup b vs q) (λb o u q=>s4.bN b o u q) p3;cases bv<;>try cases e7
  rename_i bb;refine⟨Bt,h3,m3,bb,h6,f5,r4,e6,λH6 m6 s6 r6=>?_⟩;have o6:=s6.out o3 d4;have d6:H6 D=aB (.lst vs):=s6.keep D _ o3 d4;have p6:=J1.1 m3 h3.n H4 m6 h6.n H6 s6.le s6.same (λb vs q=>s6.tup b vs q) (λb o u q=>s6.bN b o u q) p4;cases bb with
  |false=>
   simp only[eW,dF];exact⟨fl,jL _,Bt,h6,m6,acc,e7,f5.stp s6,r6,d6,(q3.stp s4).stp s6,o6,NI.trans s6,p6⟩
  |true=>
   simp only[b9];refine cg e7 λy7 h7 e8 e9=>?_;refine⟨Bt,h6,m6,y7,h7,f5.stp s6,r6,e8,λv7 H7 m7 s7 r7 q7=>?_⟩;have o7:=s7.out o6 d6;have d7:H7 D=aB (.lst vs):=s7.keep D _ o6 d6;have p7:=J1.1 m6 h6.n H6 m7 h7.n H7 s7.le s7.same (λb vs q=>s7.tup b vs q) (λb o u q=>s7.bN b o u q) p6;have NJ:=((q3.stp s4).stp s6).stp s7;have hlen:=Iw e9;rw[dG]at hlen;refine⟨d7,?_,fl,jL _,Bt,h7,m7,y7::acc,e9,?_⟩;rw[NJ.length,DG];have:big=sizeLine:=rfl;lia;obtain⟨W8,r8,mv⟩:=r7.side (u:=.lst (vs++[v7])) d7 (λ_ z=>nomatch z) (λ_ _ z=>nomatch z) o7 ((NI.trans s6).trans s7) hD;have kt:∀b us,H7 b=aB (.tup us)->upd H7 D (.lst (vs++[v7])) b=aB (.tup us):=λb us q=>by rw[bQ (dI q d7 λz=>nomatch z)];exact q
   have kf:∀b o u,H7 b=aB (.bN o u)->upd H7 D (.lst (vs++[v7])) b=aB (.bN o u):=λb o u q=>by rw[bQ (dI q d7 λz=>nomatch z)];exact q
   refine⟨⟨(f5.stp s6).len,λi w e=>let⟨v,h1,h2⟩:=((f5.stp s6).stp s7).val i w e;⟨v,h1,mv h2⟩⟩,r8,gi,?_,o7,W8,J1.1 m7 h7.n H7 m7 h7.n _ (bq _) (λ_ _=>rfl) kt kf p7⟩;rw[List.reverse_cons];exact(NJ.map mv).append (.cons (mv q7) .nil)
end
noncomputable def fX(h h':VH):Prop:=h.n<=h'.n/\h'.lo<=h.lo/\∀i,i<h.n->i<h'.lo->h'.get i=h.get i
theorem fX.refl{h:VH}:fX h h:=⟨bq _,bq _,λ_ _ _=>rfl⟩
theorem fX.trans{h h1 h2:VH}(a:fX h h1)(b:fX h1 h2):fX h h2:=⟨iY a.1 b.1,iY b.2.1 a.2.1,λi hi hl=>(b.2.2 i (dS hi a.1) hl).trans (a.2.2 i hi (dS hl b.2.1))⟩
theorem fX.new{h:VH}{o:VO}:fX h (h.new o):=⟨ly _,bq _,λi hi _=>gE hi⟩
theorem fX.set{h:VH}{i:Nat}{o:VO}(hi:i<h.n):fX h (h.set i o):=by refine⟨bq _,?_,λj hj hl=>Ie hi ?_⟩;show(if Nat.blt i h.lo then i else h.lo)<=h.lo;split;rename_i q;exact tE (fD.mp q);exact bq _;have hl:j< (if Nat.blt i h.lo then i else h.lo):=hl;split at hl;lia;rename_i q;intro z;rw[z]at hl;exact q (fD.mpr hl)
noncomputable def Gr{α:Type}(r:Res α)(h:VH):Prop:=∀a h',r=.ok a h'->fX h h'
section
variable{α β:Type}{h:VH}
theorem Gr.ok{a:α}:Gr (Res.ok a h) h:=λ_ _ e=>by cases e;exact .refl
theorem Gr.no:Gr (Res.no:Res α) h:=λ_ _ e=>by cases e
theorem Gr.of{o:Option α}:Gr (Res.of o h) h:=λ_ _ e=>by cases o with|none=>cases e|some a=>cases e;exact .refl
theorem Gr.new{a:α}{o:VO}:Gr (Res.ok a (h.new o)) h:=λ_ _ e=>by cases e;exact .new
theorem Gr.set{a:α}{o o':VO}{i:Nat}(g:h.get i=aB o'):Gr (Res.ok a (h.set i o)) h:=λ_ _ e=>by cases e;exact .set (cK g)
theorem Gr.bind{r:Res α}{f:α->VH->Res β}(a:Gr r h)(b:∀x h1,Gr (f x h1) h1):Gr (r.bind f) h:=λy h' e=>by
 cases r with|ok x h1=>exact(a x h1 rfl).trans (b x h1 y h' e)|ex _ _=>cases e|no=>cases e
end
theorem Bu{o:Op}{x y:W}{h:VH}:Gr (ck o x y h) h:=by unfold ck;split;exact .of;split;split;exact .new;exact .no;exact .no;split;split;exact .new;exact .no;exact .no;exact .no
theorem Bv{o:Op}{x y:W}{h:VH}:Gr (yt o x y h) h:=by unfold yt;split;split;exact .ok;exact .no;exact .no
theorem W9{x:W}{l u:Option Int}{h:VH}:Gr (jD x l u h) h:=by unfold jD;split;exact .ok;split;exact .new;exact .no;exact .no
theorem Bw{b:Bi}{xs:List W}{h:VH}:Gr (gT b xs h) h:=by
 cases b<;>simp only[gT];unfold fK;split<;>first|exact .of|exact .no
 unfold gS;split;split;exact .new;split;exact .new;exact .no;exact .no;unfold om;split<;>first|exact .of|exact .no
 unfold jE;split<;>first|exact .ok|exact .no
 unfold kO;split<;>first|exact .ok|exact .no
 unfold AX;split<;>first|exact .ok|exact .no
 unfold kP;split<;>first|exact .ok|exact .no
 unfold mO;split;split;exact .of;exact .no;exact .no;unfold tX;split;split;exact .new;exact .no;exact .no;unfold mP;split;split;exact .of;exact .no;exact .no;unfold mQ;split;split;exact .ok;exact .no;exact .no;unfold mS;split;split;split;split;exact .new;exact .no;exact .no;exact .no;exact .no;unfold vR;split;exact .new;exact .no;unfold mT;split;split;rename_i g;exact .set g;exact .no;exact .no
theorem Xa{x w:W}{l u:Option Int}{h:VH}:Gr (vQ x w l u h) h:=by unfold vQ;split;split;split;exact .no;split;rename_i g _ _ _;exact .set g;exact .no;exact .no;exact .no
theorem Bx{m:Mt}{o:W}{xs:List W}{h:VH}:Gr (p9 m o xs h) h:=by unfold p9;split;split;split;rename_i g _;exact .set g;exact .no;exact .no;split;exact .ok;exact .ok;exact .no;exact .of;exact .no
theorem IA{nx:Nat->VH->Option (Option W)}{tg:W->VH->En->Option En}{c e:En->VH->Res W}(hc:∀ρ h,Gr (c ρ h) h)(he:∀ρ h,Gr (e ρ h) h):∀(f i:Nat) (ρ:En) (h:VH) (acc:List W),Gr (tY nx tg c e f i ρ h acc) h
 |0,_,_,_,_=>.no
 |f+1,i,ρ,h,acc=>by
  simp only[tY];split;exact .no;exact .ok;split;exact .no;refine .bind (hc _ _) λb h1=>?_;split;exact .bind (he _ _) λy h2=>IA hc he f _ _ _ _;exact IA hc he f _ _ _ _;exact .no
theorem IB{nx:Nat->VH->Option (Option W)}{tg:W->VH->En->Option En}{c:En->VH->Res W}{e:En->VH->List W->Res (En×List W)}(hc:∀ρ h,Gr (c ρ h) h)(he:∀ρ h acc,Gr (e ρ h acc) h):∀(f i:Nat) (ρ:En) (h:VH) (acc:List W),Gr (AZ nx tg c e f i ρ h acc) h
 |0,_,_,_,_=>.no
 |f+1,i,ρ,h,acc=>by
  simp only[AZ];split;exact .no;exact .ok;split;exact .no;refine .bind (hc _ _) λb h1=>?_;split;exact .bind (he _ _ _) λy h2=>IB hc he f _ _ _ _;exact IB hc he f _ _ _ _;exact .no
theorem oB{nx:Nat->VH->Option (Option W)}{tg:W->VH->En->Option En}{c e:En->VH->Res W}(hc:∀ρ h,Gr (c ρ h) h)(he:∀ρ h,Gr (e ρ h) h):∀(f i:Nat) (ρ:En) (h:VH) (acc:List W),Gr (eG nx tg c e f i ρ h acc) h
 |0,_,_,_,_=>.no
 |f+1,i,ρ,h,acc=>by
  simp only[eG];split;exact .no;exact .ok;split;exact .no;refine .bind (hc _ _) λb h1=>?_;split;exact .bind (he _ _) λy h2=>oB hc he f _ _ _ _;exact oB hc he f _ _ _ _;exact .no
theorem oE{nx:Nat->VH->Option (Option W)}{tg:W->VH->En->Option En}{c e v:En->VH->Res W}(hc:∀ρ h,Gr (c ρ h) h)(he:∀ρ h,Gr (e ρ h) h)(hv:∀ρ h,Gr (v ρ h) h):∀(f i:Nat) (ρ:En) (h:VH) (acc:List (L2.Key×W)),Gr (A0 nx tg c e v f i ρ h acc) h
 |0,_,_,_,_=>.no
 |f+1,i,ρ,h,acc=>by
  simp only[A0];split;exact .no;exact .ok;split;exact .no;refine .bind (hc _ _) λb h1=>?_;split;refine .bind (he _ _) λy h2=>.bind (hv _ _) λz h3=>?_;split;split;exact oE hc he hv f _ _ _ _;exact .no;exact .no;exact oE hc he hv f _ _ _ _;exact .no
theorem IC{nx:Nat->VH->Option (Option W)}{tg:W->VH->En->Option En}{b:En->VH->Res Fl}(hb:∀ρ h,Gr (b ρ h) h):∀(f i:Nat) (ρ:En) (h:VH),Gr (cJ nx tg b f i ρ h) h
 |0,_,_,_=>.no
 |f+1,i,ρ,h=>by
  simp only[cJ];split;exact .no;exact .ok;split;exact .no;refine .bind (hb _ _) λfl h1=>?_;split;exact IC hb f _ _ _;exact IC hb f _ _ _;exact .ok;exact .ok
theorem ID{c:En->VH->Res W}{b:En->VH->Res Fl}(hc:∀ρ h,Gr (c ρ h) h)(hb:∀ρ h,Gr (b ρ h) h):∀(f:Nat) (ρ:En) (h:VH),Gr (bR c b f ρ h) h
 |0,_,_=>.no
 |f+1,ρ,h=>by
  simp only[bR];refine .bind (hc _ _) λt h1=>?_;split;exact .ok;refine .bind (hb _ _) λfl h2=>?_;split;exact ID hc hb f _ _;exact ID hc hb f _ _;exact .ok;exact .ok;exact .no
section
variable{cl:Call}
theorem By(hcl:∀f ws h,Gr (cl f ws h) h):∀(e:E) (ρ:En) (h:VH),Gr (ev cl e ρ h) h:=by
 intro e;induction e with
 |var i=>intro ρ h;exact .of
 |cst w=>intro ρ h;exact .ok
 |nil=>intro ρ h;exact .ok
 |cons a r i1 i2=>intro ρ h;simp only[ev];refine .bind (i1 _ _) λx h1=>.bind (i2 _ _) λy h2=>?_;split<;>first|exact .ok|exact .no
 |tup a i1=>intro ρ h;simp only[ev];refine .bind (i1 _ _) λx h1=>?_;split<;>first|(split<;>first|exact .ok|exact .no)|exact .no
 |lst a i1=>intro ρ h;simp only[ev];refine .bind (i1 _ _) λx h1=>?_;split<;>first|(split<;>first|exact .new|exact .no)|exact .no
 |nt a i1=>
  intro ρ h;simp only[ev];refine .bind (i1 _ _) λx h1=>?_;split;split;split;exact .new;exact .no;unfold jF;split;split;exact .new;exact .no;exact .no;exact .no
 |op o a b i1 i2=>intro ρ h;simp only[ev];exact .bind (i1 _ _) λx h1=>.bind (i2 _ _) λy h2=>Bu
 |neg a i1=>intro ρ h;simp only[ev];refine .bind (i1 _ _) λx h1=>?_;split<;>first|exact .ok|exact .no
 |cmp c a b i1 i2=>intro ρ h;simp only[ev];exact .bind (i1 _ _) λx h1=>.bind (i2 _ _) λy h2=>.of
 |vP c d a b e i1 i2 i3=>
  intro ρ h;simp only[ev];refine .bind (i1 _ _) λx h1=>.bind (i2 _ _) λy h2=>?_;split;exact .bind (i3 _ _) λz h3=>.of;exact .ok;exact .no
 |not a i1=>intro ρ h;simp only[ev];refine .bind (i1 _ _) λx h1=>?_;split<;>first|exact .ok|exact .no
 |and a b i1 i2=>intro ρ h;simp only[ev];refine .bind (i1 _ _) λx h1=>?_;split<;>first|exact i2 _ _|exact .ok|exact .no
 |or a b i1 i2=>intro ρ h;simp only[ev];refine .bind (i1 _ _) λx h1=>?_;split<;>first|exact i2 _ _|exact .ok|exact .no
 |jb a i1=>intro ρ h;simp only[ev];exact .bind (i1 _ _) λx h1=>.of
 |ite c a b i1 i2 i3=>
  intro ρ h;simp only[ev];refine .bind (i1 _ _) λx h1=>?_;split;exact i2 _ _;exact i3 _ _;exact .no
 |idx a b i1 i2=>intro ρ h;simp only[ev];exact .bind (i1 _ _) λx h1=>.bind (i2 _ _) λy h2=>.of
 |slc a bl lo bh hi i1 i2 i3=>
  intro ρ h;simp only[ev];refine .bind (i1 _ _) λx h1=>.bind (i2 _ _) λy h2=>.bind (i3 _ _) λz h3=>?_;split;exact W9;exact .no
 |call f a i1=>intro ρ h;simp only[ev];refine .bind (i1 _ _) λx h1=>?_;split<;>first|exact hcl _ _ _|exact .no
 |bi b a i1=>intro ρ h;simp only[ev];refine .bind (i1 _ _) λx h1=>?_;split<;>first|exact Bw|exact .no
 |nY t a i1=>intro ρ h;simp only[ev];exact .bind (i1 _ _) λx h1=>.of
 |mt m o a i1 i2=>
  intro ρ h;simp only[ev];refine .bind (i1 _ _) λx h1=>?_;split;refine .bind (i2 _ _) λy h2=>?_;split<;>first|exact Bx|exact .no
  exact .no
 |lc k a t ow ix c e i1 i2 i3=>
  intro ρ h;simp only[ev];refine .bind (i1 _ _) λx h1=>.bind (oB i2 i3 _ _ _ _ _) λys h2=>?_;split;exact .new;exact .no
 |M7 k a t ow ix c k2 a2 t2 c2 e i1 i2 i3 i4 i5=>
  intro ρ h;simp only[ev];refine .bind (i1 _ _) λx h1=>.bind (IB i2 (λρ h acc=>.bind (i3 _ _) λy h2=>IA i4 i5 _ _ _ _ _) _ _ _ _ _) λys h2=>?_;split;exact .new;exact .no
 |dc k a t ow ix c e v i1 i2 i3 i4=>
  intro ρ h;simp only[ev];exact .bind (i1 _ _) λx h1=>.bind (oE i2 i3 i4 _ _ _ _ _) λys h2=>.new
theorem BA(hcl:∀f ws h,Gr (cl f ws h) h):∀(s:S) (ρ:En) (h:VH),Gr (exs cl s ρ h) h:=by
 have ge:=By hcl;intro s;induction s with
 |skip=>intro ρ h;exact .ok
 |seq a b i1 i2=>intro ρ h;simp only[exs];refine .bind (i1 _ _) λfl h1=>?_;split<;>first|exact i2 _ _|exact .ok
 |set i e=>intro ρ h;simp only[exs];exact .bind (ge _ _ _) λw h1=>.ok
 |lH is e=>intro ρ h;simp only[exs];exact .bind (ge _ _ _) λw h1=>.of
 |aug i o e=>
  intro ρ h;simp only[exs];split;exact .bind (ge _ _ _) λy h1=>.bind Bv λz h2=>.ok;exact .no
 |put o i v=>
  intro ρ h;simp only[exs];refine .bind (ge _ _ _) λw h1=>.bind (ge _ _ _) λx h2=>.bind (ge _ _ _) λy h3=>?_;split;split;split;rename_i g _ _ _;exact .set g;exact .no;unfold iH;split;split;rename_i g _;exact .set g;exact .no;exact .no;unfold iH;split;split;rename_i g _;exact .set g;exact .no;exact .no;unfold putD;split;split;rename_i g _ _;exact .set g;exact .no;exact .no;exact .no
 |M8 o bl lo bh hi v=>
  intro ρ h;simp only[exs];refine .bind (ge _ _ _) λw h1=>.bind (ge _ _ _) λx h2=>.bind (ge _ _ _) λl h3=>.bind (ge _ _ _) λu h4=>?_;split;exact .bind Xa λ_ h5=>.ok;exact .no
 |ite c a b i1 i2=>
  intro ρ h;simp only[exs];refine .bind (ge _ _ _) λx h1=>?_;split;exact i1 _ _;exact i2 _ _;exact .no
 |ret e=>intro ρ h;simp only[exs];exact .bind (ge _ _ _) λw h1=>.ok
 |expr e=>intro ρ h;simp only[exs];exact .bind (ge _ _ _) λw h1=>.ok
 |brk=>intro ρ h;exact .ok
 |cnt=>intro ρ h;exact .ok
 | «for» k a t b i1=>intro ρ h;simp only[exs];exact .bind (ge _ _ _) λx h1=>IC i1 _ _ _ _
 |n9 c b i1=>intro ρ h;simp only[exs];exact ID (ge c) i1 _ _ _
 |no=>intro ρ h;exact .no
end
theorem BB(F:Nat->Option Fn):∀(k f:Nat) (ws:List W) (h:VH),Gr (run F k f ws h) h
 |0,_,_,_=>.no
 |k+1,f,ws,h=>by
  intro a h' e;simp only[run]at e;split at e;rename_i fn hf;split at e;rename_i hl;generalize hr:exs (run F k) fn.body (ws.map aB++bf (fn.n-fn.ps) aC) ⟨h.n,h.n,h.os⟩=r at e;have g:=BA (BB F k) fn.body (ws.map aB++bf (fn.n-fn.ps) aC) ⟨h.n,h.n,h.os⟩;rw[hr]at g;have lv:∀w h1,fX ⟨h.n,h.n,h.os⟩ h1->leave h w h1=.ok a h'->fX h h':=by
   intro w h1 g1 e1;unfold leave at e1;split at e1;cases e1;exact .refl;cases e1;refine⟨g1.1,?_,λi hi hlo=>?_⟩;show(if Nat.ble h.lo h1.lo then h.lo else h1.lo)<=h.lo;split;exact bq _;rename_i q;exact Nat.le_of_not_le λz=>q (qA.mpr z);have hlo:i< (if Nat.ble h.lo h1.lo then h.lo else h1.lo):=hlo;have hh:i<h1.lo:=by split at hlo;rename_i q;exact dS hlo (lu q);exact hlo
   exact g1.2.2 i hi hh
  cases r with
  |no=>cases e
  |ex _ _=>cases e
  |ok fl h1=>
   have g1:=g fl h1 rfl;simp only[Res.bind]at e;split at e;exact lv _ _ g1 e;exact lv _ _ g1 e;cases e
  cases e;cases e
noncomputable def vW(K:aO)(m:Nat->ah)(n:Nat)(H:Hp)(D:Ends):Fl->Prop|.nx ρ=>∀σ,Fr K m n H σ ρ->D.nx σ H|.bk ρ=>∀σ,Fr K m n H σ ρ->D.bk σ H|.ct ρ=>∀σ,Fr K m n H σ ρ->D.ct σ H|.rt w=>∀v,aM K m n H v w->D.rt v H
noncomputable def jJ(K:aO)(f:FS):TS:=λD σ H=>∃ρ h m fl h',Fr K m h.n H σ ρ/\Rel K m h H/\f ρ h=.ok fl h'/\∀H' m',bV m h.n H m' h'.n H'->Rel K m' h' H'->vW K m' h'.n H' D fl
theorem jJ.el{K:aO}{D:Ends}{σ:L2.St}{H:Hp}{P:Prop}{fa:FS}(q:jJ K fa D σ H)(k:∀ρ h m fl h',Fr K m h.n H σ ρ->Rel K m h H->fa ρ h=.ok fl h'->(∀H' m',bV m h.n H m' h'.n H'->Rel K m' h' H'->vW K m' h'.n H' D fl)->P):P:=by obtain⟨ρ,h,m,w,h',f,r,e,k'⟩:=q;exact k ρ h m w h' f r e k'
theorem jJ.mk{K:aO}{D:Ends}{σ:L2.St}{H:Hp}{m:Nat->ah}{ρ:En}{h h':VH}{fl:Fl}{fa:FS}(f:Fr K m h.n H σ ρ)(r:Rel K m h H)(e:fa ρ h=.ok fl h')(k:∀H' m',bV m h.n H m' h'.n H'->Rel K m' h' H'->vW K m' h'.n H' D fl):jJ K fa D σ H:=⟨ρ,h,m,fl,h',f,r,e,k⟩
noncomputable abbrev SS(X:Cx)(st:aq)(f:FS):Prop:=PS X st (jJ X.K f)
noncomputable abbrev rG(X:Cx)(st:List aq)(f:FS):Prop:=kE X st (jJ X.K f)
section
variable{X:Cx}{a b c e o:ao}{es:List ao}{fa fb fc fo fr:FE}{pos p:Pos}{x:Str}{st:aq}{sts:List aq}{ga gb:FS}
noncomputable abbrev t8:FS:=λρ h=>.ok (.nx ρ) h
noncomputable abbrev IE(ga gb:FS):FS:=λρ h=>(ga ρ h).bind λfl h=>match fl with|.nx ρ=>gb ρ h|fl=>.ok fl h
theorem Xb:rG X [] t8:=R3.imp λD σ H z9=>z9.el λρ h m fl h' f r e k=>by cases e;exact k H m .refl r σ f
theorem Xc:SS X (.Pass pos) t8:=R6.imp λD σ H z9=>z9.el λρ h m fl h' f r e k=>by cases e;exact k H m .refl r σ f
theorem Xd:SS X (.Break pos) (λρ h=>.ok (.bk ρ) h):=R7.imp λD σ H z9=>z9.el λρ h m fl h' f r e k=>by cases e;exact k H m .refl r σ f
theorem Xe:SS X (.Continue pos) (λρ h=>.ok (.ct ρ) h):=R8.imp λD σ H z9=>z9.el λρ h m fl h' f r e k=>by cases e;exact k H m .refl r σ f
theorem Xf(h1:SS X st ga)(h2:rG X sts gb):rG X (st::sts) (IE ga gb):=(R4 h1 h2).imp λD σ H z9=>z9.el λρ h m fl h' f r e k=>by
 refine cg e λXg h1 e1 e2=>?_;refine(.mk f r e1 λH1 m1 s1 r1=>?_);cases Xg with|nx jI=>exact λσ1 f1=>⟨jI,h1,m1,fl,h',f1,r1,e2,λH' m' s' r'=>k H' m' (s1.trans s') r'⟩|bk jI=>cases e2;exact k H1 m1 s1 r1|ct jI=>cases e2;exact k H1 m1 s1 r1|rt w=>cases e2;exact k H1 m1 s1 r1
theorem BC:SS X st (λ_ _=>.no):=Sf.imp λD σ H z9=>z9.el λρ h m fl h' f r e k=>by cases e
noncomputable def E5:ao->Bool|.ListComp .. |.SetComp .. |.DictComp ..=>false|_=>true
theorem IF{e:ao}{t:Option ao}{l:Nat}{env:Env}(h:E5 e):swapsWith e t l env=pure false:=by cases e<;>first|rfl|cases h
theorem Xh(he:SE X e fa)(hs:E5 e):SS X (.Expr e pos) (λρ h=>(fa ρ h).bind λ_ h=>.ok (.nx ρ) h):=(R9 he (IF hs)).imp λD σ H z9=>z9.el λρ h m fl h' f r e k=>by
 refine cg e λw h1 e1 e2=>?_;cases e2;exact(.mk f r e1 λv H1 m1 s1 r1 q1=>k H1 m1 s1 r1 σ (f.stp s1))
theorem Xi(he:SE X e fa):SS X (.Return (aB e) pos) (λρ h=>(fa ρ h).bind λw h=>.ok (.rt w) h):=(Sa he).imp λD σ H z9=>z9.el λρ h m fl h' f r e k=>by
 refine cg e λw h1 e1 e2=>?_;cases e2;exact(.mk f r e1 λv H1 m1 s1 r1 q1=>k H1 m1 s1 r1 v q1)
theorem Xj:SS X (.Return aC pos) (λρ h=>(Res.ok W.aI h).bind λw h=>.ok (.rt w) h):=Sb.imp λD σ H z9=>z9.el λρ h m fl h' f r e k=>by
 cases e;exact k H m .refl r .aI .aI
noncomputable abbrev vX(i:Nat)(fa:FE):FS:=λρ h=>(fa ρ h).bind λw h=>.ok (.nx (ρ.set i (aB w))) h
theorem NK{K:aO}{i:Nat}{D:Ends}{σ:L2.St}{H:Hp}(q:jJ K (vX i fa) D σ H):iI K fa σ H λv H1=>jS i v σ H1 D.nx:=by refine q.el λρ h m fl h' f r e k=>?_;refine cg e λw h1 e1 e2=>?_;cases e2;exact(.mk f r e1 λv H1 m1 s1 r1 q1=>k H1 m1 s1 r1 _ ((f.stp s1).set q1 i))
theorem IG{i:Nat}{pos':Pos}(hN:X.N.Nodup)(hi:X.N[i]?=aB x)(hx:Loc X.env.scope x)(hf:X.fn x=true\/X.env.scope.names.lookup x=aB .local)(he:SE X e fa)
 (hs:swapsWith e (aB (.Name x pos')) pos.line X.env=pure false):SS X (.Assign [.Name x pos'] e pos) (vX i fa):=(Sh hN hi hx he hs hf).imp λD σ H q=>NK q
theorem Xk{i:Nat}{pos' lp:Pos}{ow fr:List Str}{ix:List Nat}{scope:ay}{tg iter elt:ao}{ifs:List ao}{kd:Kd}{t:Tg}{fe:FE}(hN:X.N.Nodup)(hi:X.N[i]?=aB x)(hx:Loc X.env.scope x)(hf:X.fn x=true\/X.env.scope.names.lookup x=aB .local)
 (S:bW X ow fr ix scope) (hc:X.calm) (hI:PI X tg iter (eT X.K kd fa)) (hg:∀C s₀ H₀ ex,PG (X.comp (ow++fr) scope C s₀ H₀ ex) tg (gy X.K t)) (ht:∀C s₀ H₀ ex,qX (X.comp (ow++fr) scope C s₀ H₀ ex) ifs (gY X.K fc))
 (he:∀C s₀ H₀ ex,PE (X.comp (ow++fr) scope C s₀ H₀ ex) elt (iI X.K fe)) (hsw:swapsWith (.ListComp elt [⟨tg,iter,ifs,0⟩] scope lp) (aB (.Name x pos')) pos.line X.env=pure true) (hs:∀x,foldedSetIterable iter X.env x=pure x) :
 SS X (.Assign [.Name x pos'] (.ListComp elt [⟨tg,iter,ifs,0⟩] scope lp) pos) (vX i (Iz kd fa t ow.length ix fc fe)):=
 (Uu hN hi hx S hc hI hg ht he hsw hf hs).imp λD σ H q=>t7 (NK q)
theorem BD{lp:Pos}{ow fr:List Str}{ix:List Nat}{scope:ay}{tg iter elt:ao}{ifs:List ao}{kd:Kd}{t:Tg}{fe:FE}
 (S:bW X ow fr ix scope) (hc:X.calm) (hI:PI X tg iter (eT X.K kd fa)) (hg:∀C s₀ H₀ ex,PG (X.comp (ow++fr) scope C s₀ H₀ ex) tg (gy X.K t)) (ht:∀C s₀ H₀ ex,qX (X.comp (ow++fr) scope C s₀ H₀ ex) ifs (gY X.K fc))
 (he:∀C s₀ H₀ ex,PE (X.comp (ow++fr) scope C s₀ H₀ ex) elt (iI X.K fe)) (hs:∀x,foldedSetIterable iter X.env x=pure x) :
 SE X (.ListComp elt [⟨tg,iter,ifs,0⟩] scope lp) (Iz kd fa t ow.length ix fc fe):=(Aw S hc hI hg ht he hs).imp λσ H Q q=>t7 q
noncomputable def oF:ao->Bool|.Tuple ..=>false|_=>true
theorem Xl{es:List ao}{k:Nat}{e:ao}{l:Nat}{p:Pos}{env:Env}:swapsWithSole [.Tuple es k p] e l env=pure false:=by cases e<;>rfl
theorem Xm{es:List ao}{k:Nat}{p:Pos}{e:ao}{env:Env}(h:oF e):swappedStores [.Tuple es k p] e env=pure aC:=by cases e<;>first|rfl|cases h
theorem Xn{is:List Nat}{k:Nat}(hc:X.calm)(hN:X.N.Nodup)(hs:Paired (kR X) es is)(he:SE X e fa)(ht:oF e) :
 SS X (.Assign [.Tuple es k p] e pos) (λρ h=>(fa ρ h).bind λw h=>.of ((bz (.many is) w h ρ).map .nx) h):=(LY he (Iv hc hN hs) Xl (Xm ht) rfl).imp λD σ H z9=>z9.el λρ h m fl h' f r e k=>by
 refine cg e λw h1 e1 e2=>?_;obtain⟨e2,e3⟩:=of_ok e2;subst e3;cases z:bz (.many is) w h' ρ with
 |none=>rw[z]at e2;cases e2
 |some ρ'=>
  rw[z]at e2;cases e2;exact(.mk f r e1 λv H1 m1 s1 r1 q1=>(.mk (f.stp s1) r1 q1 z λσ' f'=>k H1 m1 s1 r1 σ' f'))
noncomputable def BE:ao->Bool|.Slice ..=>false|_=>true
theorem Xo{o i:ao}{p:Pos}{env:Env}(h:BE i)(v:aa):assign (.Subscript o i p) env v=(do
 let ov <-holding [v] (eval o env);let iv <-holding [v,ov] (eval i env)
 standAt p
 holding [v,ov,iv] (setItem ov iv v)
 release [v,ov,iv] []):=by
 cases i<;>first|rfl|cases h
noncomputable abbrev II(fo fi fv:FE):FS:=λρ h=>(fv ρ h).bind λw h=>(fo ρ h).bind λx h=>(fi ρ h).bind λy h=>match x,y with
 |.ref a,.int j=>(match h.get a with
  |some (.lst ws)=>(match L2.iw ws.length j with
   |some k=>.ok (.nx ρ) (h.set a (.lst (ws.set k w)))
   |none=>.no)
  |_=>iH ρ a (.inl j) w h)
 |.ref a,.aI=>iH ρ a (.inr aC) w h
 |.ref a,y=>putD ρ a y w h
 |_,_=>.no
theorem Xp{o i e:ao}{l:Nat}{p:Pos}{env:Env}:swapsWithSole [.Subscript o i p] e l env=pure false:=by cases e<;>rfl
theorem Xq{o i e:ao}{p:Pos}{env:Env}:swappedStores [.Subscript o i p] e env=pure aC:=by cases e<;>rfl
theorem NL{α β:Type}{f:α->Option β}:∀{as:List α} {bs:List β} {a:α} {b:β},aW f as=aB bs->f a=aB b->aW f (as++[a])=aB (bs++[b])
 |[],_,_,_,e,h=>by cases e;simp[aW,h]
 |x::as,bs,a,b,e,h=>by
  simp only[aW]at e;cases z:f x with
  |none=>rw[z]at e;cases e
  |some y=>
   rw[z]at e;simp only at e;cases z2:aW f as with
   |none=>rw[z2]at e;cases e
   |some ys=>
    rw[z2]at e;cases e;rw[nD];simp only[aW,z,NL z2 h,nD]
noncomputable def BF:V->V->V->Hp->(Hp->Prop)->Prop:=λo i v H Q=>∃a kvs j,o=.ref a/\i=kV j/\H a=aB (.dK kvs)/\kvs.length<sizeLine/\Q (upd H a (.dK (putK kvs j v)))
theorem Xr(hu:X.A.units+2<cLine):jR X BF:=by intro pins s σ H o i v ov iv u Q I ro ri rv h;obtain⟨a,kvs,j,rfl,rfl,e,hl,q⟩:=h;cases ro;exact UJ (Nat.lt_of_succ_lt hu) I (qY.k (k:=j) e hl) ri rv λs' I'=>⟨_,I',q⟩
theorem NN{K:aO}{m3:Nat->ah}{h3 h':VH}{H3:Hp}{l:Nat}{j:Key}{w:W}{v:V}{ρ:En}{fl:Fl}(r3:Rel K m3 h3 H3)(qv:aM K m3 h3.n H3 v w)(e6:iH ρ l j w h3=.ok fl h') :
 ∃kvs vs,h3.get l=aB (.dm kvs)/\H3 (m3 l)=aB (.dK vs)/\vs.length<sizeLine/\fl=.nx ρ/\bV m3 h3.n H3 m3 h'.n (upd H3 (m3 l) (.dK (putK vs j v)))/\Rel K m3 h' (upd H3 (m3 l) (.dK (putK vs j v))):=by
 unfold iH at e6;split at e6;rename_i kvs g;split at e6;rename_i hb;cases e6;obtain⟨vs,p1,p2⟩:=r3.dm g;have hlt:vs.length<sizeLine:=by rw[p2.length,lg];exact fD.mp hb
 obtain⟨st,r'⟩:=r3.write (i:=l) (o:=.dm (gv kvs j w)) (u:=.dK (putK vs j v)) (cK g) p1 (λ_ z=>nomatch z) (λ_ _ z=>nomatch z) λst=>⟨_,gi,aS.put (qv.stp st) _ (p2.stp st)⟩
 exact⟨kvs,vs,g,p1,hlt,rfl,st,r'⟩;cases e6;cases e6
theorem Xs(hu:X.A.units+2<cLine)(ho:SE X o fo)(hi:SE X a fa)(hv:SE X e fb)(hs:BE a):SS X (.Assign [.Subscript o a p] e pos) (II fo fa fb):=
 (LY hv (Sg ho hi (TH.or ((VF hu).or (Xr hu))) (Xo hs)) Xp Xq rfl).imp λD σ H z9=>z9.el λρ h m fl h' f r e k=>by
   refine cg e λw h1 e1 e2=>?_;refine cg e2 λx h2 e3 e4=>?_;refine cg e4 λy h3 e5 e6=>?_;refine(.mk f r e1 λv H1 m1 s1 r1 q1=>(.mk (f.stp s1) r1 e3 λvo H2 m2 s2 r2 q2=>(.mk ((f.stp s1).stp s2) r2 e5 λvi H3 m3 s3 r3 q3=>?_)));split at e6;rename_i l j;split at e6;rename_i ws g;split at e6;rename_i kk hk;cases e6;cases q3;have vY:=q2.stp s3;cases vY;obtain⟨vs,p1,p2⟩:=r3.lst g;refine .inl ⟨m3 l,vs,j,kk,rfl,rfl,p1,by rw[p2.length];exact hk,?_⟩;have qv:=((q1.stp s2).stp s3)
   obtain⟨st,r'⟩:=r3.write (i:=l) (o:=.lst (ws.set kk w)) (u:=.lst (vs.set kk v)) (cK g) p1 (λ_ z=>nomatch z) (λ_ _ z=>nomatch z) λst=>⟨_,gi,aF.set (qv.stp st) kk (p2.stp st)⟩
   exact k _ m3 (((s1.trans s2).trans s3).trans st) r' σ ((((f.stp s1).stp s2).stp s3).stp st);cases e6;have vY:=q2.stp s3;cases vY;cases q3;obtain⟨kvs,vs,g,p1,hlt,rfl,st,r'⟩:=NN r3 ((q1.stp s2).stp s3) e6;exact .inr <| .inr ⟨m3 l,vs,.inl j,rfl,rfl,p1,hlt,k _ m3 (((s1.trans s2).trans s3).trans st) r' σ ((((f.stp s1).stp s2).stp s3).stp st)⟩
   rename_i l;have vY:=q2.stp s3;cases vY;cases q3;obtain⟨kvs,vs,g,p1,hlt,rfl,st,r'⟩:=NN r3 ((q1.stp s2).stp s3) e6;exact .inr <| .inr ⟨m3 l,vs,.inr aC,rfl,rfl,p1,hlt,k _ m3 (((s1.trans s2).trans s3).trans st) r' σ ((((f.stp s1).stp s2).stp s3).stp st)⟩
   rename_i l _ _;unfold putD at e6;split at e6;rename_i ks ws dk g hd;split at e6;rename_i hc;cases e6;rw[bM]at hc;have vY:=q2.stp s3;cases vY;obtain⟨xs,p1,p2,p3,p4⟩:=r3.dt g;obtain⟨b,rfl,kk⟩:=Ba q3 hd;have hl:=p3.length;rw[bF]at hl;have hlt:xs.length<sizeLine:=by rw[hl,lg];exact fD.mp hc.2
   have qv:=((q1.stp s2).stp s3)
   have hf:bL xs dk=aC:=by rcases EW dk p2 p4 with⟨z,_⟩|⟨p,w',z,z2,_⟩;exact z;rw[z2]at hc;exact absurd hc.1 (by simp)
   have hp:iG xs dk b v=xs++[(dk,b,v)]:=by unfold iG;rw[hf];rfl
   obtain⟨u0,NO,hn,yC,Xu⟩:∃u0:HO,H3 (m3 l)=aB u0/\(∀t,u0≠HO.tup t)/\(∀o t,u0≠HO.bN o t)/\tK (aB u0):=by rcases p1 with p1|⟨_,p1⟩;exact⟨_,p1,(λ_ z=>nomatch z),(λ_ _ z=>nomatch z),True.intro⟩;exact⟨_,p1,(λ_ z=>nomatch z),(λ_ _ z=>nomatch z),True.intro⟩
   refine .inr <| .inl ⟨m3 l,b,xs,dk,rfl,rfl,j7 p1 p2 p3,by rw[NO];exact Xu,kk,hlt,?_⟩
   obtain⟨st,r'⟩:=r3.write (i:=l) (o:=.dt (ks++[y]) (ws++[w])) (u:=mJ (iG xs dk b v) (m3 l)) (cK g) NO hn yC λst=>by
    rw[hp]at st ⊢;refine⟨xs++[(dk,b,v)],.inl gi,?_,?_,?_⟩;rw[ni,NL p2 hd];rfl;rw[ni];exact(p3.stp st).append (.cons (q3.stp st) .nil);rw[ni];exact(p4.stp st).append (.cons (qv.stp st) .nil)
   exact k _ m3 (((s1.trans s2).trans s3).trans st) r' σ ((((f.stp s1).stp s2).stp s3).stp st);cases e6;cases e6;cases e6
noncomputable def rH:Operator->Option Op|.Add=>aB .add|_=>aC
noncomputable def NP:Op->R2|.add=>LZ λi j=>i+j|_=>λ_ _ _ _=>False
theorem BG{O:Operator}{o:Op}(e:rH O=aB o):G0 X O (NP o):=by cases O<;>cases e;exact Sj
theorem Xv{K:aO}{O:Operator}{o:Op}(e:rH O=aB o):A5 K (NP o) (yt o):=by intro m h H v u x y w h' Q r qv qu e2 k;unfold yt at e2;split at e2;rename_i i j;cases qv;cases qu;split at e2;cases e2;exact⟨i,j,rfl,rfl,aU.here k r (.int _)⟩;cases e2;cases e2
noncomputable abbrev vZ(i:Nat)(o:Op)(fa:FE):FS:=λρ h=>match(ρ[i]?).join with|some x=>(fa ρ h).bind λy h=>(yt o x y h).bind λz h=>.ok (.nx (ρ.set i (aB z))) h|none=>.no
theorem Xw{i:Nat}{pos':Pos}{O:Operator}{o:Op}(eo:rH O=aB o)(hN:X.N.Nodup)(hi:X.N[i]?=aB x)(hx:Loc X.env.scope x)(hf:X.fn x=true\/X.env.scope.names.lookup x=aB .local)(he:SE X e fa) :
 SS X (.AugAssign (.Name x pos') O e pos) (vZ i o fa):=(Si hN hi hx he (BG eo) hf).imp λD σ H z9=>z9.el λρ h m fl h' f r e k=>by
 have e:vZ i o fa ρ h=.ok fl h':=e;simp only[vZ]at e;cases z:(ρ[i]?).join with
 |none=>rw[z]at e;cases e
 |some x=>
  rw[z]at e;simp only at e;refine cg e λy h1 e1 e2=>?_;refine cg e2 λw h2 e3 e4=>?_;cases e4;have e5:ρ[i]?=aB (aB x):=by
   cases q:ρ[i]? with|none=>rw[q]at z;cases z|some o=>rw[q]at z;rw[<-z];rfl
  obtain⟨v,p1,p2⟩:=f.val i x e5;refine⟨v,p1,ρ,h,m,y,h1,f,r,e1,λu H1 m1 s1 r1 q1=>Xv eo m1 h1 H1 v u x y w h' _ r1 (p2.stp s1) q1 e3 λv' H' m' s' r' q'=>?_⟩;exact k H' m' (s1.trans s') r' _ (((f.stp s1).stp s').set q' i)
noncomputable abbrev Xx(fc:FE)(ga gb:FS):FS:=λρ h=>(fc ρ h).bind λx h=>match x with|.bl true=>ga ρ h|.bl false=>gb ρ h|_=>.no
variable{sa sb:List aq}
theorem Xy(hc:ST X c fc)(ha:rG X sa ga)(hb:rG X sb gb):SS X (.If c sa sb pos) (Xx fc ga gb):=(zN hc ha hb).imp λD σ H z9=>z9.el λρ h m fl h' f r e k=>by
 refine cg e λx h1 e1 e2=>?_;cases x<;>try cases e2
 rename_i c;refine(.mk f r e1 λH1 m1 s1 r1=>?_);cases c with|true=>rw[if_pos rfl];exact(.mk (f.stp s1) r1 e2 λH' m' s' r'=>k H' m' (s1.trans s') r')|false=>simp only[eW,dF];exact(.mk (f.stp s1) r1 e2 λH' m' s' r'=>k H' m' (s1.trans s') r')
theorem Xz{nx:Nat->VH->Option (Option W)}{tg:W->VH->En->Option En}{g:FS}{f i:Nat}{ρ:En}{h:VH}{fl:Fl}{h':VH}(q:cJ nx tg g (f+1) i ρ h=.ok fl h'):∃o,nx i h=aB o:=by simp only[cJ]at q;split at q;cases q;exact⟨_,by assumption⟩;exact⟨_,by assumption⟩
noncomputable abbrev BH(kd:Kd)(fa:FE)(t:Tg)(g:FS):FS:=λρ h=>(fa ρ h).bind λx h=>cJ (bw kd x) (bz t) g fuel 0 ρ h
theorem XA{K:aO}{kd:Kd}{t:Tg}{D:Ends}{σ:L2.St}{H:Hp}(q:jJ K (BH kd fa t ga) D σ H):zR (eT K kd fa) (gy K t) (jJ K ga) D σ H:=by
 refine q.el λρ h m fl h' f r e k=>?_;refine cg e λx h1 e1 e2=>?_;refine(.mk f r e1 (Xz (f:=999999) e2) λJ P H1 m1 s1 r1 J1 p1=>?_);refine⟨λi fu σ' H'=>∃ρ' h3 m3,cJ (bw kd x) (bz t) ga fu i ρ' h3=.ok fl h'/\Fr K m3 h3.n H' σ' ρ'/\Rel K m3 h3 H'/\bV m1 h1.n H1 m3 h3.n H'/\P m3 h3.n H',⟨fuel,ρ,h1,m1,e2,f.stp s1,r1,.refl,p1⟩,?_⟩;rintro i fu σ' H' ⟨ρ',h3,m3,e3,f3,r3,s3,p3⟩;cases fu with
 |zero=>cases e3
 |succ fu=>
  simp only[cJ]at e3;obtain⟨j1,j2⟩:=J1.2 m3 h3 H' r3 p3 i;split at e3;cases e3;rename_i hn;cases e3;exact .inl ⟨j2 hn,k H' m3 (s1.trans s3) r3 σ' f3⟩;rename_i w hn;obtain⟨j3,j4⟩:=j1 w hn;split at e3;cases e3;rename_i NQ ht;refine cg e3 λBI h5 e5 e6=>?_;refine .inr ⟨j3,λkL H6=>∃gz m6,cJ (bw kd x) (bz t) ga fu (i+1) gz h5=.ok fl h'/\Fr K m6 h5.n H6 kL gz/\Rel K m6 h5 H6/\bV m1 h1.n H1 m6 h5.n H6/\P m6 h5.n H6,λkL H6 ⟨gz,m6,a1,a2,a3,a4,a5⟩=>⟨fu,jL _,gz,h5,m6,a1,a2,a3,a4,a5⟩,λy H4 hy=>?_⟩;obtain⟨s4,r4,q4⟩:=j4 y H4 hy;refine⟨ρ',h3,m3,w,NQ,f3.stp s4,r4,q4,ht,λyp f5=>⟨NQ,h3,m3,BI,h5,f5,r4,e5,λH6 m6 s6 r6=>?_⟩⟩;have p4:=J1.1 m3 h3.n H' m3 h3.n H4 (bq _) (λ_ _=>rfl) (λb vs q=>s4.tup b vs q) (λb o u q=>s4.bN b o u q) p3;have p6:=J1.1 m3 h3.n H4 m6 h5.n H6 s6.le s6.same (λb vs q=>s6.tup b vs q) (λb o u q=>s6.bN b o u q) p4;have rJ:=(s3.trans s4).trans s6;cases BI with|nx gz=>exact λkL f6=>⟨gz,m6,e6,f6,r6,rJ,p6⟩|ct gz=>exact λkL f6=>⟨gz,m6,e6,f6,r6,rJ,p6⟩|bk gz=>cases e6;exact λkL f6=>k H6 m6 (s1.trans rJ) r6 kL f6|rt w6=>cases e6;exact λv6 q6=>k H6 m6 (s1.trans rJ) r6 v6 q6
theorem XC{kd:Kd}{t:Tg}{tg iter:ao}(hp:PassesOwn (model X.prog X.w) X.A X.env X.xe)(hc:X.calm)(hI:PI X tg iter (eT X.K kd fa))(hg:PG X tg (gy X.K t))(hb:rG X sa ga)(hs:∀x,foldedSetIterable iter X.env x=pure x) :
 SS X (.For tg iter sa [] pos) (BH kd fa t ga):=(Sw hp hc hI hg hb hs).imp λD σ H q=>XA q
theorem XD(hp:PassesOwn (model X.prog X.w) X.A X.env X.xe)(hc:ST X c fc)(hb:rG X sa ga):SS X (.While c sa [] pos) (λρ h=>bR fc ga fuel ρ h):=(Sl hp hc hb).imp λD σ H z9=>z9.el λρ h m fl h' f r e k=>by
 refine⟨λfu σ' H'=>∃ρ' h3 m3,bR fc ga fu ρ' h3=.ok fl h'/\Fr X.K m3 h3.n H' σ' ρ'/\Rel X.K m3 h3 H'/\bV m h.n H m3 h3.n H',⟨fuel,ρ,h,m,e,f,r,.refl⟩,?_⟩;rintro fu σ' H' ⟨ρ',h3,m3,e3,f3,r3,s3⟩;cases fu with
 |zero=>cases e3
 |succ fu=>
  simp only[bR]at e3;refine cg e3 λx h4 e4 e5=>?_;cases x<;>try cases e5
  rename_i b;refine⟨ρ',h3,m3,b,h4,f3,r3,e4,λH4 m4 s4 r4=>?_⟩;cases b with
  |false=>cases e5;simp only[eW,dF];exact k H4 m4 (s3.trans s4) r4 σ' (f3.stp s4)
  |true=>
   simp only[b9];refine cg e5 λBI h5 e6 e7=>?_;refine⟨λkL H6=>∃gz m6,bR fc ga fu gz h5=.ok fl h'/\Fr X.K m6 h5.n H6 kL gz/\Rel X.K m6 h5 H6/\bV m h.n H m6 h5.n H6,λkL H6 ⟨gz,m6,a1,a2,a3,a4⟩=>⟨fu,jL _,gz,h5,m6,a1,a2,a3,a4⟩,?_⟩;refine⟨ρ',h4,m4,BI,h5,f3.stp s4,r4,e6,λH6 m6 s6 r6=>?_⟩;have rJ:=(s3.trans s4).trans s6;cases BI with|nx gz=>exact λkL f6=>⟨gz,m6,e7,f6,r6,rJ⟩|ct gz=>exact λkL f6=>⟨gz,m6,e7,f6,r6,rJ⟩|bk gz=>cases e7;exact λkL f6=>k H6 m6 rJ r6 kL f6|rt w6=>cases e7;exact λv6 q6=>k H6 m6 rJ r6 v6 q6
end
theorem BJ{n:Str}:∀{ps:List Str} {us:List aa},us.length=ps.length->n∈ps->((ps.zip us).lookup n).isSome=true
 |[],_,_,h=>by cases h
 |p::ps,[],hl,_=>by cases hl
 |p::ps,u::us,hl,h=>by
  rw[qt,jx];by_cases e:(n==p)=true;rw[e];rfl;have e':(n==p)=false:=by simpa using e
  rw[e'];refine BJ (by simpa using hl) ?_;rcases eV.mp h with z|z
  rw[z]at e';simp at e';exact z
theorem XE{n:Str}{u:aa}{p:Str}{ps:List Str}{us:List aa}(h:n≠p):((p,u)::ps.zip us).lookup n=(ps.zip us).lookup n:=by
 rw[jx];have e':(n==p)=false:=by simpa using h
 rw[e']
theorem NR{α β:Type}{f g:α->Option β}:∀{l:List α},(∀a∈l,f a=g a)->l.filterMap f=l.filterMap g
 |[],_=>rfl
 |a::r,h=>by
  rw[xM,xM,h a eX,NR λb hb=>h b (eU _ hb)]
theorem E6:∀{ps:List Str} {us:List aa},us.length=ps.length->ps.Nodup->ps.filterMap (λn=>((ps.zip us).lookup n).map (n,·))=ps.zip us
 |[],_,_,_=>rfl
 |p::ps,[],hl,_=>by cases hl
 |p::ps,u::us,hl,hn=>by
  obtain⟨h1,h2⟩:=tu.mp hn;rw[qt,xM];have e:((p,u)::ps.zip us).lookup p=aB u:=by rw[jx];simp
  rw[e];simp only[dO];congr 1;have ih:=E6 (ps:=ps) (us:=us) (by simpa using hl) h2;refine Eq.trans ?_ ih;exact NR λn hn'=>by
   have hne:n≠p:=λz=>h1 (by rw[<-z];exact hn');rw[XE hne]
theorem NS{x qual:Str}{args:List Arg}{body:List aq}{sc:ay}{kV doc pm:aa}{an:Option ah}{cdv ct:aa}{us:List aa}{df:List ao}(hl:us.length=(args.map (·.arg)).length)(hn:(args.map (·.arg)).Nodup) :
 bindArgs (PySem.W.fnOf x qual ⟨[],args,aC,[],[],aC,df⟩ body sc .none kV doc pm an cdv ct) ⟨us,[]⟩=pure ((args.map (·.arg)).zip us):=by
 have hs:seqItems? Value.none=pure aC:=rfl;have hm:((args.map (·.arg)).filter λn=>(((args.map (·.arg)).zip us).lookup n).isNone)=[]:=by
  rw[List.filter_eq_nil_iff];intro n hn';have:=BJ hl hn';cases q:((args.map (·.arg)).zip us).lookup n with|none=>rw[q]at this;cases this|some v=>simp
 unfold bindArgs;simp only[PySem.W.fnOf,nH,qx,pT,hs,ya];have hg:¬(us.length> (args.map (·.arg)).length):=by lia
 have h0:(#[]:Array aa).toList=[]:=rfl;simp only[Option.getD_none,h0,vg,ya,List.drop_nil,qw,Nat.sub_zero,List.take_length,hm,List.isEmpty_nil,nK,List.drop_length,List.zip_nil_right,List.zip_nil_left,fE hg,xT,eW,dF,E6 hl hn]
theorem NT{z:Str}:∀{qs:List Str} {us:List aa},us.length=qs.length->(qs++[z]).zip us=qs.zip us
 |[],[],_=>rfl
 |[],_::_,h=>by cases h
 |_::_,[],h=>by cases h
 |q::qs,u::us,h=>by
  rw[nD,qt,qt,NT (by simpa using h)]
theorem IJ{z:Str}{v:aa}:∀{qs:List Str} {us:List aa},us.length=qs.length->(qs++[z]).zip (us++[v])=qs.zip us++[(z,v)]
 |[],[],_=>rfl
 |[],_::_,h=>by cases h
 |_::_,[],h=>by cases h
 |q::qs,u::us,h=>by
  rw[nD,nD,qt,qt,IJ (by simpa using h),nD]
theorem NU{z:Str}:∀{qs:List Str} {us:List aa},z∉qs->(qs.zip us).lookup z=aC
 |[],_,_=>rfl
 |_::_,[],_=>rfl
 |q::qs,u::us,h=>by
  rw[qt,jx];have e':(z==q)=false:=by simpa using(λe=>h (by rw[e];exact eX))
  rw[e'];exact NU λe=>h (eU _ e)
section
variable{x qual:Str}{args:List Arg}{df:List ao}{body:List aq}{sc:ay}{kV doc pm:aa}{an:Option ah}{cdv ct:aa}{t:ah}{o:Obj}{n:Nat}{s:af}{us:List aa}{qs:List Str}{z:Str}
theorem NV(qs:List Str)(z:Str):List.drop ([Value.none].length- (qs++[z]).length) [Value.none]=[Value.none]:=by rw[fS,kJ,kJ,show 1- (qs.length+1)=0 by lia];rfl
theorem t9(qs:List Str)(z:Str):(qs++[z]).length - [Value.none].length=qs.length:=by simp
theorem XF(ha:args.map (·.arg)=qs++[z])(hn:(qs++[z]).Nodup)(ho:s.heap.get? t=aB o)(hd:o.data=.seq #[.none] n)(hl:us.length=(qs++[z]).length) :
 BindsTo s (PySem.W.fnOf x qual ⟨[],args,aC,[],[],aC,df⟩ body sc (.ref t) kV doc pm an cdv ct) ⟨us,[]⟩ ((qs++[z]).zip us):=by
 apply BindsTo.of_defaults (items:=#[.none]) (n:=n) rfl ho hd;unfold bindArgs;simp only[PySem.W.fnOf,nH,qx,pT,vg,ya,ha];rfl;have hm:(qs.filter λn=>(((qs++[z]).zip us).lookup n).isNone)=[]:=by
  rw[List.filter_eq_nil_iff];intro n hn';have:=BJ (n:=n) hl (zf _ hn');cases q:((qs++[z]).zip us).lookup n with|none=>rw[q]at this;cases this|some v=>simp
 have hz:(((qs++[z]).zip us).lookup z).isNone=false:=by
  have:=BJ (n:=z) hl (l8 _ (i7.mpr rfl));cases q:((qs++[z]).zip us).lookup z with|none=>rw[q]at this;cases this|some v=>rfl
 have hg:¬(us.length> (qs++[z]).length):=by lia
 simp only[Option.getD_some,NV,t9,List.take_left',List.take_left,List.drop_left,List.drop_left',hm,fE hg,xT,eW,dF,List.isEmpty_nil,nK,qt,List.zip_nil_right,xP,vg,hz,ya,E6 hl hn]
theorem XG(ha:args.map (·.arg)=qs++[z])(hn:(qs++[z]).Nodup)(ho:s.heap.get? t=aB o)(hd:o.data=.seq #[.none] n)(hl:us.length=qs.length) :
 BindsTo s (PySem.W.fnOf x qual ⟨[],args,aC,[],[],aC,df⟩ body sc (.ref t) kV doc pm an cdv ct) ⟨us,[]⟩ ((qs++[z]).zip (us++[.none])):=by
 apply BindsTo.of_defaults (items:=#[.none]) (n:=n) rfl ho hd;unfold bindArgs;simp only[PySem.W.fnOf,nH,qx,pT,vg,ya,ha];rfl;have hm:(qs.filter λn=>((qs.zip us).lookup n).isNone)=[]:=by
  rw[List.filter_eq_nil_iff];intro n hn';have:=BJ (n:=n) hl hn';cases q:(qs.zip us).lookup n with|none=>rw[q]at this;cases this|some v=>simp
 have XH:z∉qs:=λh=>(ve.mp hn).2.2 z h z (i7.mpr rfl) rfl;have hz:((qs.zip us).lookup z).isNone=true:=by rw[NU XH];rfl
 have hg:¬(us.length> (qs++[z]).length):=by rw[fS];lia
 have hl2:(us++[Value.none]).length=(qs++[z]).length:=by rw[fS,fS,hl];rfl
 have ha2:=E6 hl2 hn;rw[IJ hl]at ha2;simp only[Option.getD_some,NV,t9,NT hl,IJ hl,List.take_left',List.take_left,List.drop_left,List.drop_left',hm,fE hg,xT,eW,dF,List.isEmpty_nil,nK,qt,List.zip_nil_right,xP,vg,hz,b9,ya,ha2]
end
structure oG(K:aO)(x qual:Str)(st:aq)(f:ah)(fd:au):Prop where
 ex:∃(oc:aa) (od:Option ah) (dV kV doc pm:aa) (an:Option ah) (cdv ct:aa) (osl:Array (Option aa)),fd=PySem.W.fnOf x qual (Ua st) (zev st) (jC st) dV kV doc pm an cdv ct/\K.lookup f=aB ⟨oc,od,.func fd,osl⟩/\PySem.W.codeIn K cdv qual=true
 kp:PySem.W.keepIn K (.ref f)=true
theorem oG.ok{P:ai}{w:aj}{K:aO}{mg:Str->Option aa}{base:az}{x qual:Str}{st:aq}{f:ah}{fd:au}{N ps:List Str}{k:Nat}{sp:Sp}(F:oG K x qual st f fd)(S:dJ N ps (jC st))(len:∀vs H Q E,sp vs H Q E->vs.length=ps.length)
 (hbody:∀(cdv:aa)(A:ak)(outer:List Env)(s:af)(H:Hp)(vs:List V)(Q:VK)(E:XK),dB k (A.deeper (envOfC qual (jC st) s.heap.objs.size f cdv))->sp vs H Q E->∃t,kE (jV lD P w K mg base N qual (jC st) f cdv A outer s H E).yk (zev st) t/\t {nx:=λ_ H'=>Q .aI H',rt:=Q} (start N vs) H):fU P w K mg base lD (k+1) f fd ps sp:=
 let⟨_,_,_,_,_,_,_,cdv,_,_,e,lk,hcd⟩:=F.ex
 by subst e;exact Ae lk hcd S len λA outer s H vs Q E hr pX=>let⟨t,h,q⟩:=hbody cdv A outer s H vs Q E hr pX;⟨t,h.yk,q⟩
section
variable{K:aO}{m m':Nat->ah}{n n':Nat}{h h':VH}{H H':Hp}
mutual
theorem aM.ez:∀{v:V} {w:W},aM K m n H v w->W.lt n w=true|_,_,.aI=>rfl|_,_,.bl _=>rfl|_,_,.int _=>rfl|_,_,.str _=>rfl|_,_,.tup _ r=>aF.ez r|_,_,.fz _ r=>aF.ez r|_,_,.ref q=>fD.mpr q
theorem aF.ez:∀{vs:List V} {ws:List W},aF K m n H vs ws->W.kN n ws=true
 |_,_,.nil=>rfl
 |_,_,.cons q r=>by
  show(W.lt n _&&W.kN n _)=true;rw[aM.ez q,aF.ez r];rfl
end
mutual
theorem aM.cut:∀{v:V} {w:W},aM K m n' H v w->W.lt n w=true->aM K m n H v w|_,_,.aI,_=>.aI|_,_,.bl b,_=>.bl b|_,_,.int b,_=>.int b|_,_,.str b,_=>.str b|_,_,.tup q r,e=>.tup q (aF.cut r e)|_,_,.fz q r,e=>.fz q (aF.cut r e)|_,_,.ref q,e=>.ref (fD.mp e)
theorem aF.cut:∀{vs:List V} {ws:List W},aF K m n' H vs ws->W.kN n ws=true->aF K m n H vs ws
 |_,_,.nil,_=>.nil
 |_,_,.cons q r,e=>by
  have e:(W.lt n _&&W.kN n _)=true:=e;rw[bM]at e;exact .cons (aM.cut q e.1) (aF.cut r e.2)
end
theorem aS.cut{m':Nat->ah}{n1:Nat}{H':Hp}:∀{vs us:List (Key×V)} {ws:List (Key×W)},aS K m n' H vs ws->aS K m' n H' us ws->aS K m n H vs ws|_,_,_,.nil,_=>.nil|_,_,_,.cons q r,.cons q2 r2=>.cons (q.cut q2.ez) (aS.cut (n1:=n1) r r2)
theorem NW{lo:Nat}(r:Rel K m h H):Rel K m ⟨h.n,lo,h.os⟩ H:=⟨r.obj,r.inj,r.len⟩
theorem NX{w w2:W}{h1 h2:VH}{v:V}{Q:VK}(r:Rel K m h H)(s:bV m h.n H m' h1.n H')(r1:Rel K m' h1 H')(q:aM K m' h1.n H' v w)(g:fX ⟨h.n,h.n,h.os⟩ h1)(e:leave h w h1=.ok w2 h2)(k:aU K m h.n H w2 h2 Q):Q v H':=by
 unfold leave at e;split at e;rename_i hc;cases e;rw[bM]at hc;have hlo:=lu hc.1;refine k v H' m' ⟨bq _,s.same,λi a b=>absurd b (jM.mpr a),λi j a b=>absurd b (jM.mpr a),s.tup,s.bN,s.keep⟩ ⟨λi hi=>?_,λi j hi hj=>r1.inj i j (dS hi s.le) (dS hj s.le),r.len⟩ (q.cut hc.2);have hg:h1.get i=h.get i:=g.2.2 i hi (dS hi hlo);obtain⟨o,p1,p2⟩:=r1.obj i (dS hi s.le);rw[hg]at p1;refine⟨o,p1,?_⟩;have p3:=r.at_ p1;cases o with
 |lst ws=>
  obtain⟨vs,a1,a2⟩:=p2;obtain⟨us,b1,b2⟩:=p3;exact⟨vs,a1,a2.cut b2.ez⟩
 |dk ws=>
  obtain⟨vs,a1,a2⟩:=p2;obtain⟨us,b1,b2⟩:=p3;exact⟨vs,a1,aS.cut (n1:=0) a2 b2⟩
 |dm ws=>
  obtain⟨vs,a1,a2⟩:=p2;obtain⟨us,b1,b2⟩:=p3;exact⟨vs,a1,aS.cut (n1:=0) a2 b2⟩
 |dt ks ws=>
  obtain⟨xs,a1,a0,a2,a3⟩:=p2;obtain⟨us,b1,b0,b2,b3⟩:=p3;exact⟨xs,a1,a0,a2.cut b2.ez,a3.cut b3.ez⟩
 cases e;exact k v H' m' s (NW r1) q
theorem XI{N:List Str}{vs:List V}{ws:List W}(q:aF K m n H vs ws):Fr K m n H (L2.start N vs) (ws.map aB++bf (N.length-ws.length) aC):=by
 unfold L2.start;refine⟨by simp[q.length],λi w e=>?_⟩;by_cases hi:i<ws.length;rw[nC (by simpa using hi)]at e;rw[nC (by simpa[q.length]using hi)];rw[iC]at e ⊢;cases z:ws[i]? with
 |none=>rw[z]at e;cases e
 |some w'=>
  rw[z]at e;cases e;obtain⟨v,h1,h2⟩:=q.get z;exact⟨v,by rw[h1];rfl,h2⟩
 rw[kI (by simpa using jM.mp hi)]at e;rw[zd]at e;split at e<;>cases e
end
theorem IK{F:Nat->Option Fn}{k idx:Nat}{ws:List W}{h h':VH}{w:W}{fn:Fn}(hF:F idx=aB fn)(e:run F k idx ws h=.ok w h'):ws.length=fn.ps:=by
 cases k with
 |zero=>cases e
 |succ k=>
  simp only[run,hF]at e;split at e;rename_i hl;exact zm hl;cases e
theorem NY{P:ai}{w:aj}{K:aO}{mg:Str->Option aa}{base:az}{F:Nat->Option Fn}{k idx:Nat}{fn:Fn}{x qual:Str}{st:aq}{f:ah}{fd:au}{N ps:List Str}(hF:F idx=aB fn)(Fu:oG K x qual st f fd)(S:dJ N ps (jC st))
 (hn:fn.n=N.length) (hp:fn.ps=ps.length)
 (hbody:∀(cdv:aa)(A:ak)(outer:List Env)(s:af)(H:Hp)(E:XK),dB k (A.deeper (envOfC qual (jC st) s.heap.objs.size f cdv))->rG (jV lD P w K mg base N qual (jC st) f cdv A outer s H E).yk (zev st) (exs (run F k) fn.body)) :
 fU P w K mg base lD (k+1) f fd ps (oA K ps.length (run F (k+1) idx)):=by
 refine Fu.ok S (λvs H Q E h=>h.1) λcdv A outer s H vs Q E hr pX=>?_;refine⟨_,hbody cdv A outer s H E hr,?_⟩;obtain⟨hl,h,m,ws,w2,h2,r,q,e,k2⟩:=pX;have hws:=IK hF e;simp only[run,hF]at e;split at e;refine cg e λfl h1 e1 e2=>?_;have g:=BA (BB F k) _ _ _ _ _ e1;have hN:fn.n-fn.ps=N.length-ws.length:=by rw[hn,hws]
 rw[hN]at e1;refine⟨_,⟨h.n,h.n,h.os⟩,m,fl,h1,XI q,NW r,e1,λH' m' s' r'=>?_⟩;cases fl with|nx ρ=>exact λσ' f'=>NX r s' r' .aI g e2 k2|rt w3=>exact λv q3=>NX r s' r' q3 g e2 k2|bk _=>cases e2|ct _=>cases e2
 cases e
theorem NZ{P:ai}{w:aj}{K:aO}{mg:Str->Option aa}{base:az}{F:Nat->Option Fn}{idx:Nat}{f:ah}{fd:au}{ps:List Str}:fU P w K mg base lD 0 f fd ps (oA K ps.length (run F 0 idx)):=
 ⟨λvs H Q E h=>h.1,λA outer s H args us vs Q E hr he hb hv hs=>by obtain⟨_,h,m,ws,w2,h2,r,q,e,k2⟩:=hs;cases e⟩
noncomputable def gA(K:aO)(x:Str):Option ah:=(match PySem.W.nsIn K mainGlobals x with|some (aB (.ref f))=>aB f|_=>aC)
theorem N1{K:aO}{x:Str}{f:ah}(h:gA K x=aB f):PySem.W.nsIn K mainGlobals x=aB (aB (.ref f)):=by unfold gA at h;split at h;rename_i g e;cases h;exact e;cases h
end RF
namespace L2
open PySem PySem.Spec PyProof.Rows
theorem IL:∀{ls:List Int} {us:List aa},Vals (ls.map .int) us->IntsAre us ls|[],_,.nil=>.nil|x::r,_,.cons ⟨t,e⟩ h=>by subst e;exact .cons x t (IL h)
theorem XJ:∀{ls:List Int} {us:List aa},IntsAre us ls->Vals (ls.map .int) us:=by
 intro ls us h;induction h with|nil=>exact .nil|cons x t _ ih=>exact .cons ⟨t,rfl⟩ ih
section
variable{X:Cx}
theorem XM(hc:X.calm):bK X (.builtin "sum") (λxs H Q=>∃(p:ah) (ns:List Int),xs=[.ref p]/\cN X.K H p (ns.map .int)/\Q (.int ns.sum) H):=by
 intro pins s σ H xs us Q I r h;obtain⟨p,ns,rfl,hq,q⟩:=h;obtain⟨u,rfl,ru⟩:=vals1 r;cases ru;obtain⟨its,rv,pl,hz⟩:=I.list hq;have hL:s.heap.IsList p its.toArray:=pl.isList;have hi:=IL rv;obtain⟨ys,hx⟩:=hi.allInts.items;have hl':s.heap.IsList p (intItems ys):=hx▸hL;refine sum_intListG (I.ok.hd hc) hl' λh' tk t' hk=>?_;have e1:ns=ys.toList.map (·.1):=by rw[<-nums_intItems,<-hx];exact(show numsOf its.toArray.toList=ns from hi.numsOf).symm
 have e2:preSum (numAt ys) ys.size=ns.sum:=by rw[preSum_eq,List.take_of_length_le (by simp),e1]
 rw[e2];exact⟨.int ns.sum,H,I.kept (t':=tk) hk,⟨_,rfl⟩,q⟩
theorem XN:bK X (.builtin "sorted") (λxs H Q=>∃(p:ah) (ns:List Int),xs=[.ref p]/\cN X.K H p (ns.map .int)/\ns.length<64/\∀(l:ah) (ms:List Int),H l=aC->ms.Perm ns->ms.Pairwise (· <= ·)->Q (.ref l) (upd H l (.lst (ms.map .int)))):=by intro pins s σ H xs us Q I r h;obtain⟨p,ns,rfl,hq,h64,q⟩:=h;obtain⟨u,rfl,ru⟩:=vals1 r;cases ru;obtain⟨its,rv,pl,hz⟩:=I.list hq;have hL:s.heap.IsList p its.toArray:=pl.isList;have hlen:=rv.length;rw[bF]at hlen;refine sorted_ints hL (IL rv) (by lia) λout ms a1 a2 a3=>?_;obtain⟨e,he⟩:=sortedAll_at s.heap its out;refine⟨.ref _,_,I.laid (t':=s.toks) (λb o z=>sortedAll_old z) (ly _) (show aZ X.prog X.w _ _ _ (.lst (ms.map .int))from⟨?_,out.toList,e,XJ a1,?_⟩),rfl,q _ ms (I.hok.fresh (ly _)) a2 a3⟩;rw[bF,a2.length_eq,lg];lia;exact he
end
end L2
namespace KO
open PySem PySem.W PyProof.Rows
variable{r:Nat->Int}
noncomputable def eB(r:Nat->Int){α:Type}:KasT α->α|.ret a=>a|.ask i j k=>eB r (k (decide (r i<r j)))
theorem yD{α β:Type}{f:α->KasT β}:∀t:KasT α,eB r (t.bind f)=eB r (f (eB r t))|.ret _=>rfl|.ask i j k=>yD (k (decide (r i<r j)))
noncomputable def J(r:Nat->Int)(p:Array Nat)(i:Nat):Int:=r ((p[i]?).getD 0)
theorem yE(p:Array Nat)(i:Nat):r (p.getD i 0)=J r p i:=by rw[Array.getD_eq_getD_getElem?];rfl
theorem BK{p q:Array Nat}{i j:Nat}(h:p[i]?=q[j]?):J r p i=J r q j:=by unfold J;rw[h]
noncomputable def Up(r:Nat->Int)(p:Array Nat)(k:Nat):Prop:=∀i j,i<=j->j<k->J r p i<=J r p j
noncomputable def Dn(r:Nat->Int)(p:Array Nat)(k:Nat):Prop:=∀i j,i<j->j<k->J r p j<J r p i
noncomputable def Di(r:Nat->Int)(p:Array Nat):Prop:=∀i j,i<j->j<p.size->J r p i≠J r p j
theorem Up.one{p:Array Nat}:Up r p 1:=λi j a b=>by
 have:i=j:=by lia
 subst this;exact xX _
theorem Up.succ{p:Array Nat}{n:Nat}(h:Up r p n)(h1:1<=n)(e:J r p (n-1)<=J r p n):Up r p (n+1):=λi j a b=>by
 by_cases x:j<n;exact h i j a x;have:j=n:=by lia
 subst this;by_cases y:i=j;subst y;exact xX _;exact xW (h i (j-1) (by lia) (by lia)) e
theorem Dn.succ{p:Array Nat}{n:Nat}(h:Dn r p n)(h1:1<=n)(e:J r p n<J r p (n-1)):Dn r p (n+1):=λi j a b=>by
 by_cases x:j<n;exact h i j a x;have:j=n:=by lia
 subst this;by_cases y:i=j-1;subst y;exact e;exact Int.lt_trans e (h i (j-1) (by lia) (by lia))
theorem IM{p:Array Nat}{k:Nat}(hs:Up r p k):∀(f l h:Nat),l<=h->h<=k->h-l<=f->(∀i,i<l->J r p i<=J r p k)->(∀i,h<=i->i<k->J r p k<J r p i)->
 eB r (kas_place p k f l h)<=k/\(∀i,i<eB r (kas_place p k f l h)->J r p i<=J r p k)/\(∀i,eB r (kas_place p k f l h)<=i->i<k->J r p k<J r p i)
 |0,l,h,a,b,c,d,e=>by
  have:l=h:=by lia
  subst this;exact⟨b,d,e⟩
 |f+1,l,h,a,b,c,d,e=>by
  unfold kas_place;by_cases g:l>=h;rw[if_pos g];have:l=h:=by lia
  subst this;exact⟨b,d,e⟩;rw[if_neg g];show eB r (if decide (r (p.getD k 0)<r (p.getD ((l+h)/2) 0))=true then _ else _)<=k/\_;simp only[eB,yE];by_cases x:J r p k<J r p ((l+h)/2);rw[gg x];simp only[b9];exact IM hs f l ((l+h)/2) (by lia) (by lia) (by lia) d λi y z=>Int.lt_of_lt_of_le x (hs _ _ y z);rw[fE x];simp only[eW,dF];exact IM hs f ((l+h)/2+1) h (by lia) b (by lia) (λi y=>xW (hs i ((l+h)/2) (by lia) (by lia)) (Int.not_lt.mp x)) e
theorem N2{p:Array Nat}{src d:Nat}(hs:src<p.size)(hd:d<=src)(k:Nat) :
 J r (bubble p src d) k=if k=src-d then J r p src else if src-d<k/\k<=src then J r p (k-1)else J r p k:=by
 have e:=getElem?_bubble hs d hd k;by_cases h1:k=src-d;rw[if_pos h1]at e ⊢;exact BK e;rw[if_neg h1]at e ⊢;by_cases h2:src-d<k/\k<=src;rw[if_pos h2]at e ⊢;exact BK e;rw[if_neg h2]at e ⊢;exact BK e
theorem ua{p:Array Nat}{j:Nat}(hj:j<=p.size)(k:Nat):J r (kas_rev p 0 j) k=if k<j then J r p (j-1-k)else J r p k:=by have e:=getElem?_mirror_all (i:=0) hj k;unfold kas_rev;by_cases h1:k<j;rw[if_pos ⟨gX _,h1⟩]at e;rw[if_pos h1];rw[vec]at e;exact BK e;rw[if_neg (λz=>h1 z.2)]at e;rw[if_neg h1];exact BK e
theorem XO{p:Array Nat}{k l:Nat}(hk:k<p.size)(hl:l<=k)(hs:Up r p k)(lo:∀i,i<l->J r p i<=J r p k)(hi:∀i,l<=i->i<k->J r p k<J r p i):Up r (bubble p k (k-l)) (k+1):=by
 intro i j hij hj;rw[N2 hk (by lia),N2 hk (by lia),show k- (k-l)=l by lia]
 repeat' split
 all_goals first
  |(exfalso;lia)
  |exact xX _
  |exact lo _ (by lia)
  |exact Int.le_of_lt (hi _ (by lia) (by lia))
  |exact hs _ _ (by lia) (by lia)
theorem N3:∀(f:Nat) (p:Array Nat) (k:Nat),k+f<=p.size->Up r p k->(eB r (kas_bin f p k)).Perm p/\Up r (eB r (kas_bin f p k)) (k+f)
 |0,p,k,_,h=>⟨zx _,h⟩
 |f+1,p,k,z,h=>by
  unfold kas_bin;rw[yD];obtain⟨a,b,c⟩:=IM h k 0 k (gX _) (bq _) (by lia) (λi y=>by lia) (λi y1 y2=>by lia);generalize eB r (kas_place p k k 0 k)=l at a b c;obtain⟨x,y⟩:=N3 f (bubble p k (k-l)) (k+1) (by rw[bubble_size];lia) (XO (by lia) a h b c);refine⟨x.trans (bubble_perm _ _ _),?_⟩;rw[show k+ (f+1)=k+1+f by lia];exact y
theorem IP{p:Array Nat}:∀(f n:Nat),1<=n->Up r p n->n<=eB r (kas_asc p f n)/\eB r (kas_asc p f n)<=n+f/\Up r p (eB r (kas_asc p f n))/\(eB r (kas_asc p f n)<n+f->J r p (eB r (kas_asc p f n))<J r p (eB r (kas_asc p f n)-1))
 |0,n,a,h=>⟨bq _,bq _,h,λx=>absurd x (nj _)⟩
 |f+1,n,a,h=>by
  have e:eB r (kas_asc p (f+1) n)=if J r p n<J r p (n-1)then n else eB r (kas_asc p f (n+1)):=by show eB r (if decide (r (p.getD n 0)<r (p.getD (n-1) 0))=true then KasT.ret n else kas_asc p f (n+1))=_;simp only[yE,gH];split<;>rfl
  rw[e];by_cases x:J r p n<J r p (n-1);rw[if_pos x];exact⟨bq _,by lia,h,λ_=>x⟩;rw[if_neg x];obtain⟨b,c,d,g⟩:=IP f (n+1) (by lia) (h.succ a (Int.not_lt.mp x));exact⟨by lia,by lia,d,λy=>g (by lia)⟩
theorem N4{p:Array Nat}(di:Di r p):∀(f n:Nat),1<=n->n+f<=p.size->Dn r p n->∃m,eB r (kas_desc f p n 0)=(p,m,0)/\n<=m/\m<=n+f/\Dn r p m
 |0,n,a,b,h=>⟨n,rfl,bq _,bq _,h⟩
 |f+1,n,a,b,h=>by
  by_cases x:J r p n<J r p (n-1);obtain⟨m,e,c,d,g⟩:=N4 di f (n+1) (by lia) (by lia) (h.succ a x);refine⟨m,?_,by lia,by lia,g⟩;rw[<-e];show eB r (if decide (r (p.getD n 0)<r (p.getD (n-1) 0))=true then _ else _)=_;simp only[yE];rw[gg x];rfl;have y:J r p (n-1)<J r p n:=by have:=di (n-1) n (by lia) (by lia);lia
  refine⟨n,?_,bq _,by lia,h⟩;show eB r (if decide (r (p.getD n 0)<r (p.getD (n-1) 0))=true then _ else KasT.ask (p.getD (n-1) 0) (p.getD n 0) _)=_;simp only[yE];rw[fE x];simp only[eW,dF];simp only[eB,yE];rw[gg y];rfl
theorem XQ{p:Array Nat}{m n:Nat}(h1:1<=m)(hm:m<=n)(hn:n<=p.size)(h:Dn r p m):∃q k,eB r (kas_tail3 m n p)=(k,q)/\q.Perm p/\1<=k/\k<=n/\Up r q k:=by
 have u:Up r (kas_rev p 0 m) m:=by intro i j a b;rw[ua (by lia),ua (by lia),if_pos (by lia),if_pos b];by_cases e:i=j;subst e;exact xX _;exact Int.le_of_lt (h _ _ (by lia) (by lia))
 obtain⟨b,c,d,_⟩:=IP (n-m) m h1 u;refine⟨kas_rev p 0 m,_,?_,xZ _ _ _ _,iY h1 b,by lia,d⟩;unfold kas_tail3;rw[yD];rfl
theorem N5{p:Array Nat}(di:Di r p){n:Nat}(h2:2<=n)(hn:n<=p.size):∃q k,eB r (kas_count n p)=(k,q)/\q.Perm p/\1<=k/\k<=n/\Up r q k:=by
 unfold kas_count;rw[yD];obtain⟨b,c,d,e⟩:=IP (p:=p) (n-1) 1 (bq _) Up.one;generalize eB r (kas_asc p (n-1) 1)=m at b c d e;by_cases x:m=n;rw[if_pos (by simpa using x)];exact⟨p,m,rfl,zx _,b,by lia,d⟩;rw[if_neg (by simpa using x)];by_cases y:m>1;rw[if_pos y];have z:J r p 0<J r p (m-1):=by have a1:=d 0 (m-1) (gX _) (by lia);have a2:=di 0 (m-1) (by lia) (by lia);lia
 simp only[eB,yE];rw[gg z];exact⟨p,m,rfl,zx _,b,by lia,d⟩;rw[if_neg y];have:m=1:=by lia
 subst this;unfold kas_descPart;rw[yD];have d1:Dn r p 1:=λi j a b=>by lia
 obtain⟨m,e1,f1,f2,f3⟩:=N4 di (n- (1+1)) (1+1) (by lia) (by lia) (d1.succ (bq _) (e (by lia)));rw[e1];simp only[nj,gt_iff_lt,dF];exact XQ (by lia) (by lia) hn f3
theorem rK{n:Nat}(h2:2<=n)(di:∀i j,i<j->j<n->r i≠r j):(eB r (kas_sort n)).Perm (List.range n).toArray/\Up r (eB r (kas_sort n)) n:=by
 have hz:(List.range n).toArray.size=n:=by simp
 have hd:Di r (List.range n).toArray:=by intro i j a b;rw[hz]at b;unfold J;rw[DB,DB,DH (by lia),DH b];exact di i j a b
 unfold kas_sort;rw[yD];obtain⟨q,k,e,a,b,c,d⟩:=N5 hd h2 (Nat.le_of_eq hz.symm);rw[e];show(eB r (if k<n then kas_bin (n-max k 1) q (max k 1)else KasT.ret q)).Perm _/\Up r (eB r (if k<n then kas_bin (n-max k 1) q (max k 1)else KasT.ret q)) n;rw[show max k 1=k by lia];have hq:q.size=n:=by rw[a.size_eq,hz]
 by_cases x:k<n;rw[if_pos x];obtain⟨f,g⟩:=N3 (n-k) q k (by lia) d;exact⟨f.trans a,by rw[show k+ (n-k)=n by lia]at g;exact g⟩;rw[if_neg x];have:k=n:=by lia
 subst this;exact⟨a,d⟩
end KO
namespace KO
open PySem PySem.W PyProof.Rows
variable{r:Nat->Int}
noncomputable def Ask(r:Nat->Int)(n:Nat){α:Type}:KasT α->Prop|.ret _=>True|.ask i j k=>i<n/\j<n/\Ask r n (k (decide (r i<r j)))
theorem yF{n:Nat}{α β:Type}{f:α->KasT β}:∀{t:KasT α},Ask r n t->Ask r n (f (eB r t))->Ask r n (t.bind f)|.ret _,_,h=>h|.ask _ _ _,g,h=>⟨g.1,g.2.1,yF g.2.2 h⟩
noncomputable def Ln(n:Nat)(p:Array Nat):Prop:=0<n/\∀x∈p,x<n
theorem Ln.at_{n:Nat}{p:Array Nat}(h:Ln n p)(i:Nat):p.getD i 0<n:=by
 rw[Array.getD_eq_getD_getElem?];cases e:p[i]? with
 |none=>exact h.1
 |some x=>
  obtain⟨hi,e⟩:=Array.getElem?_eq_some_iff.mp e;subst e;exact h.2 _ (Array.getElem_mem hi)
theorem Ln.perm{n:Nat}{p q:Array Nat}(h:Ln n p)(e:q.Perm p):Ln n q:=⟨h.1,λx hx=>h.2 x (e.mem_iff.mp hx)⟩
variable{n:Nat}
theorem IQ{p:Array Nat}(L:Ln n p){k:Nat}:∀f l h,Ask r n (kas_place p k f l h)
 |0,_,_=>trivial
 |f+1,l,h=>by
  unfold kas_place;split;trivial;refine⟨L.at_ _,L.at_ _,?_⟩;dsimp only;split;exact IQ L _ _ _;exact IQ L _ _ _
theorem N6:∀(f:Nat) (p:Array Nat) (k:Nat),Ln n p->Ask r n (kas_bin f p k)
 |0,_,_,_=>trivial
 |f+1,p,k,L=>by
  unfold kas_bin;exact yF (IQ L _ _ _) (N6 f _ _ (L.perm (bubble_perm _ _ _)))
theorem IS{p:Array Nat}(L:Ln n p):∀f k,Ask r n (kas_asc p f k)
 |0,_=>trivial
 |f+1,k=>by
  unfold kas_asc;refine⟨L.at_ _,L.at_ _,?_⟩;dsimp only;split;trivial;exact IS L f _
theorem E7:∀(f:Nat) (p:Array Nat) (k q:Nat),Ln n p->Ask r n (kas_desc f p k q)
 |0,_,_,_,_=>trivial
 |f+1,p,k,q,L=>by
  unfold kas_desc;refine⟨L.at_ _,L.at_ _,?_⟩;dsimp only;split;split;exact E7 f _ _ _ (L.perm (xZ _ _ _ _));exact E7 f _ _ _ L;refine⟨L.at_ _,L.at_ _,?_⟩;dsimp only;split;trivial;exact E7 f _ _ _ L
theorem E8:∀(f:Nat) (p:Array Nat) (k q:Nat),(eB r (kas_desc f p k q)).1.Perm p
 |0,p,_,_=>zx _
 |f+1,p,k,q=>by
  unfold kas_desc;simp only[eB];split;split;exact(E8 f _ _ _).trans (xZ _ _ _ _);exact E8 f _ _ _;simp only[eB];split;exact zx _;exact E8 f _ _ _
theorem N7{p:Array Nat}(L:Ln n p)(m k:Nat):Ask r n (kas_tail3 m k p):=by unfold kas_tail3;exact yF (IS (L.perm (xZ _ _ _ _)) _ _) trivial
theorem N8{p:Array Nat}(L:Ln n p)(m k:Nat):Ask r n (kas_descPart m k p):=by unfold kas_descPart;refine yF (E7 _ _ _ _ L) ?_;have L2:=L.perm (E8 (r:=r) (k- (m+1)) p (m+1) 0);split;exact N7 (L2.perm (xZ _ _ _ _)) _ _;exact N7 L2 _ _
theorem XR{p:Array Nat}(L:Ln n p)(k:Nat):Ask r n (kas_count k p):=by unfold kas_count;refine yF (IS L _ _) ?_;split;trivial;split;refine⟨L.at_ _,L.at_ _,?_⟩;dsimp only;split;trivial;exact N8 (L.perm (xZ _ _ _ _)) _ _;exact N8 L _ _
theorem oH(h2:2<=n)(di:∀i j,i<j->j<n->r i≠r j):Ask r n (kas_sort n):=by
 have hz:(List.range n).toArray.size=n:=by simp
 have hd:Di r (List.range n).toArray:=by intro i j a b;rw[hz]at b;unfold J;rw[DB,DB,DH (by lia),DH b];exact di i j a b
 have L:Ln n (List.range n).toArray:=⟨by lia,λx hx=>by simpa using hx⟩
 unfold kas_sort;refine yF (XR L _) ?_;obtain⟨q,k,e,a,_⟩:=N5 hd h2 (Nat.le_of_eq hz.symm);rw[e];show Ask r n (if k<n then kas_bin (n-max k 1) q (max k 1)else KasT.ret q);split;exact N6 _ _ _ (L.perm a);trivial
theorem oJ{α:Type}{cmp:Nat->Nat->(Bool->af->Prop)->af->Prop}{s:af}(hc:∀i j C,i<n->j<n->C (decide (r i<r j)) s->cmp i j C s):∀{t:KasT α} {Q:α->af->Prop},Ask r n t->Q (eB r t) s->t.kasWp cmp Q s|.ret _,_,_,q=>q|.ask i j k,Q,g,q=>hc i j _ g.1 g.2.1 (oJ hc g.2.2 q)
end KO
namespace L2
open PySem PySem.Spec PyProof.Rows PySem.W
section
variable{X:Cx}{pins:List (ah×Obj)}{σ:St}{H:Hp}{s:af}{h':az}
theorem Inv.BL{a:ah}{o:HO}{t':Nat}(I:Inv X pins σ H s)(k:∀b u,b≠X.env.locals->s.heap.get? b=aB u->h'.get? b=aB u)(ns:∀m,s.heap.Ns X.env.locals m->h'.Ns X.env.locals m)(hp:s.heap.objs.size<=a)
 (new:aZ X.prog X.w (upd H a o) h' a o):Inv X pins σ (upd H a o) {s with heap:=h',toks:=t'}:=by
 have hn:H a=aC:=I.hok.fresh hp;have nl:∀b u,H b=aB u->b≠X.env.locals:=λb u e z=>by rw[z,I.free]at e;cases e
 refine I.step (g':=s.gens) (d':=s.drawn) (ch:=[]) (λ_ z=>nomatch z) (λb u h1 _ _ e _=>k b u h1 e) (λb u h1 _ _ e _=>⟨u.slots,k b u h1 e⟩)
  (λb u _ q n=>by rw[bQ (fB (dS (cP q) hp))];exact n) (λb u _ e=>?_)
  (λb xs q=>by rw[bQ (gj q hn)];exact q) (λb u xs q=>by rw[bQ (gj q hn)];exact q) (λb ps q=>⟨#[],by rw[bQ (gj q hn),q];simp⟩) ns (λb u e=>?_) I.bare
 by_cases z:b=X.env.locals;obtain⟨m,hm,_⟩:=I.loc;obtain⟨o',_,_,g,_⟩:=ns m hm;exact⟨o',by rw[z];exact g⟩;exact⟨u,k b u z e⟩;by_cases z:b=a;subst z;rw[gi]at e;cases e;exact new;rw[bQ z]at e;refine(I.hok b u e).stay (λc v hc q=>k c v ?_ q) (λc q=>by rw[bQ (gj q hn)];exact q) λc xs q=>by rw[bQ (gj q hn)];exact q
 rcases hc with hc|hc;rw[hc];exact nl b u e;exact nl c _ hc
noncomputable def E9(h:az)(L:ah):List (ah×Obj):=(List.range h.objs.size).filterMap λb=>if b=L then aC else(h.get? b).map λo=>(b,o)
theorem BN{h:az}{L b:ah}{o:Obj}:(b,o)∈E9 h L↔b≠L/\h.get? b=aB o:=by
 unfold E9;rw[List.mem_filterMap];constructor;rintro⟨c,_,e⟩;split at e;cases e;rename_i hne;cases g:h.get? c with
 |none=>rw[g]at e;cases e
 |some u=>
  rw[g]at e;cases e;exact⟨hne,g⟩
 rintro⟨h1,h2⟩;exact⟨b,tw.mpr (cP h2),by rw[if_neg h1,h2];rfl⟩
theorem XS{h:az}{L:ah}{m m':Str->Option aa}(a:h.Ns L m)(b:h.Ns L m'):m'=m:=by obtain⟨o,es,ep,g,d,_,f⟩:=a;obtain⟨o',es',yj,g',d',_,f'⟩:=b;rw[g]at g';cases g';rw[d]at d';cases d';funext x;rw[<-f,<-f']
end
section
variable{prog:ai}{w:aj}{A:ak}{E:aa->af->Prop}{s:af}{l:ah}{vs:List aa}
noncomputable def h1(h:az)(vs:List aa):az:=((h.push (seqObj "list" #[] 0)).update h.objs.size (Obj.mapSeq (· ++ vs.toArray))).push (seqObj "list" vs.toArray 0)
theorem IT{h:az}:((h.push (seqObj "list" #[] 0)).update h.objs.size (Obj.mapSeq (· ++ vs.toArray))).objs.size=h.objs.size+1:=by rw[Heap.size_update,size_push']
theorem oK{h:az}:(h1 h vs).get? (h.objs.size+1)=aB (seqObj "list" vs.toArray 0):=by unfold h1;rw[<-IT (vs:=vs)];exact gh _ rfl
theorem N9{h:az}{b:ah}{o:Obj}(q:h.get? b=aB o):(h1 h vs).get? b=aB o:=by have hlt:b<h.objs.size:=cP q;unfold h1;rw[Heap.get?_push_ne _ _ _ (by rw[IT];exact fB (tD hlt)),Heap.get?_update_ne _ _ _ _ (fB hlt),Heap.get?_push_ne _ _ _ (fB hlt)];exact q
theorem XT{h:az}{out:Array aa}:sortedHeap (h1 h vs) (h.objs.size+1) vs out=sortedAll h vs out:=by unfold sortedAll h1;rfl
theorem XU{Q:aa->af->Prop}(hl:s.heap.IsList l vs.toArray)(h64:vs.length<64)
 (h:∀P:PySem.Fin->af->Prop,(∀s',Q (.ref (s.heap.objs.size+1)) s'->P (.done (.ret .none)) s')->wpAny (model prog w) A.in1.in1 (Builtin.«list.sort» ⟨[.ref (s.heap.objs.size+1)],[]⟩) P E {s with heap:=h1 s.heap vs}) :
 wpAny (model prog w) A (call (.builtin "sorted") [.ref l]) Q E s:=by
 refine Calls.call_function_entry kind_sorted plain_sorted entry_sorted (args_sorted1 _) ?_;unfold Builtin.«sorted»;refine aJ (m:=checkCount "sorted" 1 1 _) (bg ?_);refine aJ (collect_list hl ?_ (by rw[lg];lia));refine aJ (wpAny_newList ?_ (by rw[lg];lia));show wpAny _ _ _ _ _ {s with heap:=h1 s.heap vs};rw[IT];refine aJ (nA (kG slot_list_sort ⟨_,oK,rfl⟩ entry_list_sort (h _ λs' q=>?_) (args_list_sort _)));exact⟨_,rfl,bg ⟨_,rfl,q⟩⟩
theorem XW{a:ah}{n:Nat}{P:PySem.Fin->af->Prop}(ho:s.heap.get? a=aB (seqObj "list" vs.toArray n))(h2:vs.length<2)(h:P (.done (.ret .none)) {s with heap:=sortedHeap s.heap a vs vs.toArray}) :
 wpAny (model prog w) A (Builtin.«list.sort» ⟨[.ref a],[]⟩) P E s:=by
 rw[list_sort_plain];have ha:a<s.heap.objs.size:=cP ho;have hl:(vs.length:Nat)<=sizeLine:=by rw[lg];lia
 refine aJ (listItems_at ho rfl ?_);refine aJ (listUpdate_at ho rfl ?_ (by rw[eY];exact hl) (gX _));obtain⟨e1,Oa⟩:∃e1,(s.heap.update a (Obj.mapSeq λ_=>#[])).get? a=aB (seqObj "list" #[] e1):=⟨_,get?_update_seq ho (λ_=>#[])⟩
 refine aJ (seqEpoch_at Oa rfl ?_);refine aJ (wpAny_newTuple ?_ (by show vs.length<=_;exact hl));refine aJ (wpAny_newList ?_ (gX _));refine nA ?_;have ho6:(((s.heap.update a (Obj.mapSeq λ_=>#[])).push (seqObj "tuple" vs.toArray 0)).push (seqObj "list" #[] 0)).get? a=aB (seqObj "list" #[] e1):=dH _ (dH _ Oa);show wpAny (model prog w) A _ P E {s with heap:=((s.heap.update a (Obj.mapSeq λ_=>#[])).push (seqObj "tuple" vs.toArray 0)).push (seqObj "list" #[] 0)};dsimp only;have hs:vs.toArray.size<2:=by rw[eY];exact h2
 have hm:(arrOf (SortSt.mk' general' (vs.toArray.zip vs.toArray) #[] 7 aC)).map (·.2)=vs.toArray:=by show(vs.toArray.zip vs.toArray).map (·.2)=vs.toArray;simp only[List.zip_toArray,List.map_toArray];exact ku _ (List.map_snd_zip (bq _))
 rw[if_pos hs,if_pos hs];refine aJ (bg ?_);rw[StateT.run_pure];refine aJ (bg ?_);dsimp only;refine aJ (seqEpoch_at ho6 rfl ?_);rw[hm];refine aJ (listUpdate_at ho6 rfl ?_ (gX _) (by rw[eY];first|exact hl|exact DM hl));simp only[bne_self_eq_false,eW,dF];exact bg h
end
section
variable{X:Cx}
theorem uc{ts:List (ah×Int×Int)}{i:Nat}(hi:i<ts.length):(ts.map (·.2.1)).getD i 0=ts[i].2.1:=by simp[hi]
theorem XX{ts:List (ah×Int×Int)}{vs:List aa}(r:Vals (ts.map λt=>V.ref t.1) vs):vs=ts.map λt=>Value.ref t.1:=by
 induction ts generalizing vs with
 |nil=>cases r;rfl
 |cons t ts ih=>
  cases r with
  |cons a b=>
   cases a;rw[ih b];rfl
theorem XY{prog:ai}{w:aj}{A:ak}{s:af}{a b c d:Int}{t1 t2 t3 t4:Tok}{Q:Bool->af->Prop}(e:a=c->b=d)(h:Q (decide (a<c)) s) :
 KatLex prog w A true false Q [(.int a t1,.int c t3),(.int b t2,.int d t4)] 0 s:=by
 refine kat_cons (Dp ?_);by_cases z:a=c;have e':(a==c)=true:=by simpa using z
 rw[e'];refine kat_yes (kat_cons (Dp ?_));have e2:(b==d)=true:=by simpa using e z
 rw[e2];refine kat_yes (kat_nil ?_);rw[show decide (a<c)=false from fE (by lia)]at h;exact h;have e':(a==c)=false:=by simpa using z
 rw[e'];exact kat_no (oneLt_int h)
noncomputable abbrev dT:ah×Int×Int:=(0,0,0)
theorem XZ{α:Type}(d:α)(ts:List α):(List.range ts.length).map (λi=>ts.getD i d)=ts:=by refine List.ext_getElem (by simp) λi h1 h2=>?_;simp[h2]
theorem X0{ts:List (ah×Int×Int)}{is:List Nat}(h:∀i∈is,i<ts.length):is.map (λi=>(ts.map λt=>Value.ref t.1).getD i Value.none)=(is.map λi=>ts.getD i dT).map λt=>Value.ref t.1:=by rw[qy];refine xN λi hi=>?_;have:=h i hi;simp[this]
theorem BO{ts:List (ah×Int×Int)}{p:Array Nat}(hb:∀i∈p.toList,i<ts.length)(h:KO.Up (λi=>(ts.map (·.2.1)).getD i 0) p p.size):(p.toList.map λi=>ts.getD i dT).Pairwise λa b=>a.2.1<=b.2.1:=by
 rw[List.pairwise_map,List.pairwise_iff_getElem];intro i j hi hj hij;have x:=h i j (tE hij) (by simpa using hj);have hi':i<p.size:=by simpa using hi
 have hj':j<p.size:=by simpa using hj
 unfold KO.J at x;rw[Array.getElem?_eq_getElem hi',Array.getElem?_eq_getElem hj']at x;have b1:=hb p[i] (by simp);have b2:=hb p[j] (by simp);simpa[b1,b2]using x
noncomputable def yG(h:az)(t:ah×Int×Int):Prop:=∃o n t1 t2,h.get? t.1=aB o/\o.cls=.type "tuple"/\o.data=.seq #[.int t.2.1 t1,.int t.2.2 t2] n
theorem Ob{h:az}:∀{ts:List (ah×Int×Int)},(∀t∈ts,yG h t)->∃fs,KatTups h (ts.map λt=>Value.ref t.1) fs/\fs.length=ts.length/\∀v∈fs,∃i t,v=.int i t
 |[],_=>⟨[],trivial,rfl,λv h=>nomatch h⟩
 |t::ts,g=>by
  obtain⟨fs,a,b,c⟩:=Ob λx hx=>g x (eU _ hx);obtain⟨o,n,t1,t2,e1,e2,e3⟩:=g t (eX ..);refine⟨.int t.2.1 t1::fs,KatTups.cons e1 e2 e3 rfl a,by rw[dG,dG,b],λv hv=>?_⟩;rcases eV.mp hv with hv|hv;exact⟨_,_,hv⟩;exact c v hv
theorem X3{pins:List (ah×Obj)}{σ:St}{H:Hp}{s:af}{t:ah×Int×Int}(I:Inv X pins σ H s)(h:bZ X.K H t.1 [.int t.2.1,.int t.2.2]):yG s.heap t:=by obtain⟨its,rv,pt,_⟩:=I.tuple h;obtain⟨o,a,b,n,d⟩:=pt;obtain⟨u,v,e,⟨t1,e1⟩,⟨t2,e2⟩⟩:=vals2 rv;subst e e1 e2;exact⟨o,n,t1,t2,a,b,d⟩
theorem yG.ne{h:az}{t:ah×Int×Int}{L:ah}{m:Str->Option aa}(p:yG h t)(n:h.Ns L m):t.1≠L:=λz=>by
 obtain⟨o,_,_,_,a,_,d⟩:=p;obtain⟨o',_,_,a',d',_⟩:=n;rw[z,a']at a;cases a;rw[d']at d;cases d
theorem Fb{ts:List (ah×Int×Int)}(nd:(ts.map (·.2.1)).Nodup):∀i j,i<j->j<ts.length->(ts.map (·.2.1)).getD i 0≠(ts.map (·.2.1)).getD j 0:=λi j a b e=>by
 rw[uc (by lia),uc b]at e;have:=List.pairwise_iff_getElem.mp nd i j (by simpa using Nat.lt_trans a b) (by simpa using b) a;simp at this;exact this e
theorem X4{α:Type}{R:α->α->Prop}:∀{ts:List α},ts.length<2->ts.Pairwise R|[],_=>.nil|[_],_=>List.pairwise_singleton ..|_::_::_,h=>absurd h (by simp)
theorem X5{pins:List (ah×Obj)}{σ:St}{H:Hp}{s:af}{xs:List V}{vs:List aa}(I:Inv X pins σ H s)(rv:Vals xs vs)(lz:xs.length<=sizeLine) :
 ∃H',Inv X pins σ H' {s with heap:=sortedAll s.heap vs vs.toArray}/\H (s.heap.objs.size+1)=aC/\True/\H'=upd H (s.heap.objs.size+1) (.lst xs):=by
 obtain⟨e,he⟩:=sortedAll_at s.heap vs vs.toArray;exact⟨_,I.laid (t':=s.toks) (λb o z=>sortedAll_old z) (ly _) (show aZ X.prog X.w _ _ _ (.lst xs)from⟨lz,vs,e,rv,he⟩),I.hok.fresh (ly _),trivial,rfl⟩
theorem X6:bK X (.builtin "sorted") (λxs H Q=>∃(p:ah) (ts:List (ah×Int×Int)),xs=[.ref p]/\cN X.K H p (ts.map λt=>V.ref t.1)/\(∀t∈ts,bZ X.K H t.1 [.int t.2.1,.int t.2.2])/\(ts.map (·.2.1)).Nodup/\ts.length<64/\
 ∀(l:ah)(us:List (ah×Int×Int)),H l=aC->us.Perm ts->us.Pairwise (λa b=>a.2.1<=b.2.1)->Q (.ref l) (upd H l (.lst (us.map λt=>V.ref t.1)))):=by
 intro pins s σ H xs us Q I r h;obtain⟨p,ts,rfl,hq,hT,nd,h64,q⟩:=h;obtain⟨u,rfl,ru⟩:=vals1 r;cases ru;obtain⟨its,rv,pl,hz⟩:=I.list hq;have hL:s.heap.IsList p its.toArray:=pl.isList;have e:=XX rv;subst e;obtain⟨m,hm,_⟩:=id I.loc;have pa:∀t∈ts,yG s.heap t:=λt ht=>X3 I (hT t ht);have lz:ts.length<=sizeLine:=by rw[lg];lia
 refine XU hL (by rw[bF];exact h64) λP hP=>?_;by_cases h2:ts.length<2;refine XW oK (by rw[bF];exact h2) (hP _ ?_)
 dsimp only;rw[XT];obtain⟨H',I2,x1,x2,x3⟩:=X5 I rv (by rw[bF];exact lz);subst x3;refine⟨.ref (s.heap.objs.size+1),_,I2,rfl,q _ ts x1 (Eh _) (X4 h2)⟩;have hlen:(ts.map λt=>Value.ref t.1).length=ts.length:=bF ..;have hna:∀x∈E9 s.heap X.env.locals,x.1≠s.heap.objs.size+1:=λx hx=>fB (tD (cP (BN.mp hx).2));have F:Fr {} X.env.locals (h1 s.heap (ts.map λt=>Value.ref t.1)) m:=by obtain⟨o,es,ep,g,w⟩:=hm;exact⟨⟨o,es,ep,N9 g,w⟩,λb o e=>(by cases e),gX _⟩
 have N:News {} X.env.locals (h1 s.heap (ts.map λt=>Value.ref t.1)) (E9 s.heap X.env.locals):=λx hx=>⟨N9 (BN.mp hx).2,(BN.mp hx).1,rfl⟩
 refine kat_list_sort F N oK (mj (tD hm.lt)) rfl hna (by lia) (by lia) λe1 h' F' N'=>?_;have k':∀b o,b≠X.env.locals->s.heap.get? b=aB o->h'.get? b=aB o:=λb o x1 x2=>(N' (b,o) (eU _ (BN.mpr ⟨x1,x2⟩))).1;have IU:∀t∈ts,yG h' t:=λt ht=>by
  have ne:=(pa t ht).ne hm;obtain⟨o,n,t1,t2,a,b⟩:=pa t ht;exact⟨o,n,t1,t2,k' _ _ ne a,b⟩
 obtain⟨fs,f1,f2,f3⟩:=Ob IU;refine kat_kind (T:=.type "int") f1 (by lia) (λv hv=>?_) rfl ?_;obtain⟨i,t,rfl⟩:=f3 v hv;exact Looks.of_pure rfl;rw[hlen];obtain⟨g1,g2⟩:=KO.rK (r:=λi=>(ts.map (·.2.1)).getD i 0) (n:=ts.length) (by lia) (Fb nd);refine KO.oJ (r:=λi=>(ts.map (·.2.1)).getD i 0) (n:=ts.length) (λi j C hi hj hC=>?_) (KO.oH (by lia) (Fb nd)) ?_;obtain⟨o,n,t1,t2,a1,_,a3⟩:=IU ts[i] (nF hi);obtain⟨o',n',t1',t2',b1,_,b3⟩:=IU ts[j] (nF hj);have z1:(ts.map λt=>Value.ref t.1).getD i Value.none=.ref ts[i].1:=by simp[hi]
 have z2:(ts.map λt=>Value.ref t.1).getD j Value.none=.ref ts[j].1:=by simp[hj]
 unfold kas_ask;rw[z1,z2];refine kat_lt a1 a3 b1 b3 (XY (λz=>?_) ?_);by_cases x:i=j;subst x;rfl;rcases Nat.lt_or_gt_of_ne x with y|y
 exact absurd z (by rw[<-uc hi,<-uc hj];exact Fb nd i j y hj);exact absurd z.symm (by rw[<-uc hi,<-uc hj];exact Fb nd j i y hi);rw[<-uc hi,<-uc hj];exact hC;generalize KO.eB (λi=>(ts.map (·.2.1)).getD i 0) (kas_sort ts.length)=p' at g1 g2;have Oc:p'.toList.Perm (List.range ts.length):=by simpa using Array.perm_iff_toList_perm.mp g1
 have sz:p'.size=ts.length:=by rw[g1.size_eq];simp
 have hb:∀i∈p'.toList,i<ts.length:=λi hi=>tw.mp (Oc.mem_iff.mp hi);refine KasFin.intro F' N' (UpdF.head hna) λh'' c X7 Od=>hP _ ?_;have k'':∀b o,b≠X.env.locals->s.heap.get? b=aB o->h''.get? b=aB o:=λb o x1 x2=>(Od (b,o) (eU _ (BN.mpr ⟨x1,x2⟩))).1;have pu:(p'.toList.map λi=>ts.getD i dT).Perm ts:=by have:=Oc.map λi=>ts.getD i dT;rw[XZ]at this;exact this
 have ho:=(Od _ (eX ..)).1;rw[X0 hb]at ho;refine⟨.ref _,_,I.BL (t':=s.toks) k'' (λm' hm'=>by rw[XS hm hm'];exact X7.ns) (ly _) (show aZ X.prog X.w _ _ _ (.lst ((p'.toList.map λi=>ts.getD i dT).map λt=>V.ref t.1))from⟨?_,_,c,?_,ho⟩),rfl,q _ _ (I.hok.fresh (ly _)) pu (BO hb (by rw[sz];exact g2))⟩;rw[bF,pu.length_eq];exact lz;generalize (p'.toList.map λi=>ts.getD i dT)=us;induction us with|nil=>exact .nil|cons t us ih=>exact .cons rfl ih
end
end L2
namespace L2
open PySem PySem.Spec PyProof.Rows PySem.W
theorem Oe{P:ai}{w:aj}:∀{kvs:List (Key×V)} {vs:List (Key×aa)} {us:List aa},KV kvs vs->us.length=vs.length->(∀(j:Nat) (v:aa),us[j]?=aB v->∃k x,vs[j]?=aB (k,x)/\(iD P w).is k v=true)->Vals (kvs.map λkv=>kV kv.1) us
 |[],_,[],_,_,_=>.nil
 |[],_,_::_,.nil,hl,_=>nomatch hl
 |_::_,_,[],.cons _ _,hl,_=>nomatch hl
 |a::r,b::t,u::us,.cons q qs,hl,h=>by
  refine .cons ?_ (Oe qs (by simpa using hl) λj v e=>by simpa using h (j+1) v (by simpa using e));obtain⟨k,x,e,hk⟩:=h 0 u rfl;cases e;obtain⟨e1,_⟩:=q;show RelV (kV a.1) u;rw[e1];exact tV hk
theorem X8{X:Cx}(hc:X.calm):bK X (.type "list") (λxs H Q=>∃a kvs,xs=[.ref a]/\H a=aB (.dK kvs)/\∀l,H l=aC->Q (.ref l) (upd H l (.lst (kvs.map λkv=>kV kv.1)))):=by intro pins s σ H xs us Q I r h;obtain⟨a,kvs,rfl,e,q⟩:=h;obtain⟨u,rfl,rx⟩:=vals1 r;cases rx;obtain⟨hz,hd,vs,kv,dd⟩:=nU I.hok e;obtain⟨ep,dd⟩:=dd.dictAt;have hl:=kv.length;refine kdl_call (kdl_dict hd) (I.ok.hd hc) dd (by lia) λh' tk acc c hk hS hacc=>?_;have rv:Vals (kvs.map λkv=>kV kv.1) acc.toList:=Oe (P:=X.prog) (w:=X.w) kv (by rw[zw];exact hacc.1) λj v e=>hacc.2 j v (by rw[<-Array.getElem?_toList];exact e);exact⟨.ref s.heap.objs.size,_,I.laid (t':=tk) hk (bq _) (show aZ X.prog X.w _ h' _ (.lst _)from⟨by rw[bF];exact hz,acc.toList,c,rv,by rw[Array.toArray_toList];exact hS⟩),rfl,q _ (I.hok.fresh (bq _))⟩
end L2
namespace RF
open PySem PySem.Spec PyProof.Rows L2
section
variable{α:Type}{f:α->Int}
theorem IV(x:α):∀l:List α,(mR f x l).Perm (x::l)
 |[]=>Eh _
 |y::r=>by
  unfold mR;split;exact Eh _;exact((IV x r).cons y).trans (List.Perm.swap ..)
theorem ud:∀l:List α,(dD f l).Perm l|[]=>Eh _|x::r=>(IV x _).trans ((ud r).cons x)
theorem Of(x:α):∀{l:List α},l.Pairwise (λa b=>f a<=f b)->(mR f x l).Pairwise λa b=>f a<=f b
 |[],_=>List.pairwise_singleton ..
 |y::r,h=>by
  obtain⟨h1,h2⟩:=List.pairwise_cons.mp h;unfold mR;split;rename_i z;have z:f x<=f y:=jP z;refine List.pairwise_cons.mpr ⟨λa ha=>?_,h⟩;rcases eV.mp ha with e|ha;rw[e];exact z;exact xW z (h1 a ha);rename_i z;have z:¬f x<=f y:=λq=>z (gg q);refine List.pairwise_cons.mpr ⟨λa ha=>?_,Of x h2⟩;rcases eV.mp ((IV x r).mem_iff.mp ha)with e|ha;rw[e];lia;exact h1 a ha
theorem IW:∀l:List α,(dD f l).Pairwise λa b=>f a<=f b|[]=>.nil|x::r=>Of x (IW r)
theorem IX{l m:List α}(hi:∀a b,a∈l->b∈l->f a=f b->a=b)(p:m.Perm l)(h:m.Pairwise λa b=>f a<=f b):m=dD f l:=
 List.Perm.eq_of_pairwise (λa b ha hb x y=>hi a b (p.mem_iff.mp ha) ((ud l).mem_iff.mp hb) (Int.le_antisymm x y)) h (IW l) (p.trans (ud l).symm)
end
theorem ue:∀{l:List Int},yu l=true->l.Nodup
 |[],_=>xQ
 |x::r,h=>by
  unfold yu at h;rw[bM]at h;refine tu.mpr ⟨λz=>?_,ue h.2⟩;have:=h.1;simp[z]at this
section
variable{K:aO}{m:Nat->ah}{n:Nat}{H:Hp}
theorem IY:∀{vs:List V} {ws:List W} {is:List Int},aF K m n H vs ws->aW iZ ws=aB is->vs=is.map .int
 |_,_,_,.nil,e=>by cases e;rfl
 |_,_,_,.cons (w:=w) (ws:=ws) q r,e=>by
  unfold aW at e;cases z:iZ w with
  |none=>rw[z]at e;cases e
  |some b=>
   rw[z]at e;cases z2:aW iZ ws with
   |none=>rw[z2]at e;cases e
   |some cs=>
    rw[z2]at e;cases e;unfold iZ at z;split at z<;>cases z;cases q;rw[IY r z2];rfl
theorem Og:∀is:List Int,aF K m n H (is.map .int) (is.map .int)|[]=>.nil|i::r=>.cons (.int i) (Og r)
theorem uf:∀{vs:List V} {ws:List W} {ps:List (Int×Int)},aF K m n H vs ws->aW pW ws=aB ps->∃ts:List (ah×Int×Int),vs=ts.map (λt=>V.ref t.1)/\ts.map (·.2)=ps/\∀t∈ts,bZ K H t.1 [.int t.2.1,.int t.2.2]
 |_,_,_,.nil,e=>by cases e;exact⟨[],rfl,rfl,λt h=>nomatch h⟩
 |_,_,_,.cons (w:=w) (ws:=ws) q r,e=>by
  unfold aW at e;cases z:pW w with
  |none=>rw[z]at e;cases e
  |some b=>
   rw[z]at e;cases z2:aW pW ws with
   |none=>rw[z2]at e;cases e
   |some cs=>
    rw[z2]at e;cases e;unfold pW at z;split at z<;>cases z;obtain⟨ts,e1,e2,e3⟩:=uf r z2;cases q with
    |tup s1 s2=>
     obtain⟨x,y,rfl,q1,q2⟩:=j8 s2;cases q1;cases q2;refine⟨(_,_,_)::ts,by rw[e1];rfl,ku (_ :: ·) e2,λt ht=>?_⟩;rcases eV.mp ht with e|ht;rw[e];exact s1;exact e3 t ht
theorem Oh:∀ts:List (ah×Int×Int),(∀t∈ts,bZ K H t.1 [.int t.2.1,.int t.2.2])->aF K m n H (ts.map λt=>V.ref t.1) ((ts.map (·.2)).map wP)|[],_=>.nil|t::r,h=>.cons (.tup (h t (eX ..)) (.cons (.int _) (.cons (.int _) .nil))) (Oh r λx hx=>h x (eU _ hx))
end
theorem Yb{K:aO}:eK K (λxs H Q=>∃(p:ah) (ns:List Int),xs=[.ref p]/\cN K H p (ns.map .int)/\Q (.int ns.sum) H) mP:=by
 intro m h H vs xs w h' Q r q e k;unfold mP at e;split at e<;>try cases e
 rename_i i;split at e<;>try cases e
 rename_i ws g;obtain⟨v,rfl,q1⟩:=fk q;obtain⟨e,rfl⟩:=of_ok e;cases z:aW iZ ws with
 |none=>rw[z]at e;cases e
 |some is=>
  rw[z]at e;cases e;cases q1;obtain⟨us,p1,p2⟩:=r.lst g;refine⟨_,is,rfl,?_,aU.here k r (.int _)⟩;rw[<-IY p2 z];exact .inl (.inl p1)
theorem Yc{K:aO}:eK K (λxs H Q=>∃i j,xs=[.int i,.int j]/\qQ i j/\∀p,H p=aC->Q (.ref p) (upd H p (.tup [.int (i/j),.int (i % j)]))) mQ:=by
 intro m h H vs xs w h' Q r q e k;unfold mQ at e;split at e<;>try cases e
 rename_i i j;split at e<;>try cases e
 rename_i z;rw[bM,gH,gH]at z;obtain⟨v,u,rfl,q1,q2⟩:=j8 q;cases q1;cases q2;exact⟨i,j,rfl,z,λp hp=>aU.tuple k r (.cons (.int _) (.cons (.int _) .nil)) hp⟩
noncomputable def BP(K:aO):List V->Hp->VK->Prop:=λxs H Q=>
 (∃(p:ah) (ns:List Int),xs=[.ref p]/\cN K H p (ns.map .int)/\ns.length<64/\∀(l:ah)(ms:List Int),H l=aC->ms.Perm ns->ms.Pairwise (· <= ·)->Q (.ref l) (upd H l (.lst (ms.map .int))))\/
 ∃(p:ah) (ts:List (ah×Int×Int)),xs=[.ref p]/\cN K H p (ts.map λt=>V.ref t.1)/\(∀t∈ts,bZ K H t.1 [.int t.2.1,.int t.2.2])/\(ts.map (·.2.1)).Nodup/\ts.length<64/\
  ∀(l:ah)(us:List (ah×Int×Int)),H l=aC->us.Perm ts->us.Pairwise (λa b=>a.2.1<=b.2.1)->Q (.ref l) (upd H l (.lst (us.map λt=>V.ref t.1)))
theorem Yd{X:Cx}:bK X (.builtin "sorted") (BP X.K):=by
 intro pins s σ H xs us Q I r h;rcases h with h|h
 exact XN pins s σ H xs us Q I r h;exact X6 pins s σ H xs us Q I r h
theorem Ye{K:aO}:eK K (BP K) mS:=by
 intro m h H vs xs w h' Q r q e k;unfold mS at e;split at e<;>try cases e
 rename_i i;split at e<;>try cases e
 rename_i ws g;split at e<;>try cases e
 rename_i h64;have h64:ws.length<64:=Nat.lt_of_succ_le (lu h64);obtain⟨v,rfl,q1⟩:=fk q;cases z:j6 ws with
 |none=>rw[z]at e;cases e
 |some ys=>
  rw[z]at e;cases e;cases q1;obtain⟨us,p1,p2⟩:=r.lst g;have hlen:=p2.length;unfold j6 at z;cases z1:aW iZ ws with
  |some is=>
   rw[z1]at z;cases z;have ev:=IY p2 z1;subst ev;refine .inl ⟨_,is,rfl,.inl (.inl p1),by rw[bF]at hlen;lia,λl ms hl hp hu=>?_⟩;have:ms=dD id is:=IX (f:=id) (λa b _ _ x=>x) hp hu;subst this;exact aU.list k r (Og _) hl
  |none=>
   rw[z1]at z;cases z2:aW pW ws with
   |none=>rw[z2]at z;cases z
   |some ps=>
    rw[z2]at z;dsimp only at z;split at z<;>cases z;rename_i nd;obtain⟨ts,e1,e2,e3⟩:=uf p2 z2;subst e1 e2;have nd:=ue nd;rw[qy]at nd;refine .inr ⟨_,ts,rfl,.inl (.inl p1),e3,nd,by rw[bF]at hlen;lia,λl us hl hp hu=>?_⟩;have hm:us.map (·.2)=dD (λp:Int×Int=>p.1) (ts.map (·.2)):=by
     refine IX (f:=λp:Int×Int=>p.1) (λa b ha hb x=>?_) (hp.map _) (List.pairwise_map.mpr hu);obtain⟨t,ht,rfl⟩:=jh.mp ha;obtain⟨t',ht',rfl⟩:=jh.mp hb;obtain⟨i,hi,rfl⟩:=List.getElem_of_mem ht;obtain⟨j,hj,rfl⟩:=List.getElem_of_mem ht';have pw:=List.pairwise_iff_getElem.mp nd;by_cases y:i=j;subst y;rfl;rcases Nat.lt_or_gt_of_ne y with y|y
     have:=pw i j (by simpa using hi) (by simpa using hj) y;simp at this;exact absurd x this;have:=pw j i (by simpa using hj) (by simpa using hi) y;simp at this;exact absurd x.symm this
    rw[<-hm]at k;exact aU.list k r (Oh us λt ht=>e3 t (hp.mem_iff.mp ht)) hl
section
variable{K:aO}{m:Nat->ah}{h:VH}{H:Hp}
theorem Yg{a:ah}{u:HO}(e:H a=aB u):upd H a u=H:=by funext b;by_cases z:b=a;subst z;rw[gi,e];rw[bQ z]
theorem Rel.IZ(r:Rel K m h H){i:Nat}{kvs:List (Key×W)}(g:h.get i=aB (.dm kvs)):Rel K m (h.set i (.dk kvs)) H:=by
 obtain⟨vs,p1,p2⟩:=r.dm g;obtain⟨_,r'⟩:=r.write (i:=i) (o:=.dk kvs) (u:=.dK vs) (cK g) p1 (λ_ z=>nomatch z) (λ_ _ z=>nomatch z) λst=>⟨vs,.inl gi,p2.stp st⟩
 rw[Yg p1]at r';exact r'
theorem aU.BQ{Q:VK}(k:aU K m h.n H (.ref h.n) (h.new (.dm [])) Q)(r:Rel K m h H){p:ah}(hp:H p=aC):Q (.ref p) (upd H p (.dK [])):=by obtain⟨st,r'⟩:=r.alloc (o:=.dm []) (u:=.dK []) hp (λ_ z=>nomatch z) (λst=>⟨[],gi,.nil⟩);refine k _ _ _ st r' ?_;have:aM K (λi=>if i=h.n then p else m i) (h.n+1) (upd H p (.dK [])) (.ref ((λi=>if i=h.n then p else m i) h.n)) (.ref h.n):=.ref (jL _);simp only[b9]at this;exact this
end
section
variable{X:Cx}{e:ao}{fa:FE}{pos:Pos}
theorem Yh:SE X (.Dict [] [] pos) (jH kQ vR):=MU.imp λσ H Q z9 p hp=>z9.el λρ h m w h' f r e k=>by
 cases e;exact aU.BQ k r hp
theorem Yi(he:SE X e fa):SE X e (jH (jm fa kQ) mT):=he.imp λσ H Q z9=>z9.el λρ h m w h' f r e k=>by
 refine cg e λy h1 e1 e2=>?_;refine cg e1 λx h2 e3 e4=>?_;cases e4;refine(.mk f r e3 λv H1 m1 s1 r1 q1=>?_);dsimp only at e2;unfold mT at e2;split at e2;rename_i i heq;cases heq;split at e2;rename_i kvs g;cases e2;exact k v H1 m1 s1 (r1.IZ g) q1;cases e2;cases e2
end
set_option genInjectivity false in
structure CC where
 N:List Str
 names:List (Str×NameKind)
 ug:Bool
noncomputable def uh:List Str->Str->Nat->Option Nat|[],_,_=>aC|y::r,x,i=>if y==x then aB i else uh r x (i+1)
theorem Oi:∀{N:List Str} {x:Str} {k i:Nat},uh N x k=aB i->∃j,i=k+j/\N[j]?=aB x
 |[],_,_,_,e=>by cases e
 |y::r,x,k,i,e=>by
  unfold uh at e;split at e;rename_i h;cases e;exact⟨0,rfl,by simpa using h⟩;obtain⟨j,h1,h2⟩:=Oi e;exact⟨j+1,by lia,by simpa using h2⟩
theorem I0{N:List Str}{x:Str}{i:Nat}(e:uh N x 0=aB i):N[i]?=aB x:=by obtain⟨j,h1,h2⟩:=Oi e;rw[show i=j by lia];exact h2
noncomputable def rL:Option NameKind->Bool|some .local|some .cell|some .free=>true|_=>false
noncomputable def rM(all:Bool):Option NameKind->Bool|some .local=>true|some .cell=>all|_=>false
noncomputable def okN(x:Str):Bool:=!(x==("__debug__" : Str)) && !(x==("__classdict__" : Str)) && !(x==("__name__" : Str)) && !(x==("" : Str))
theorem Yj{x:Str}(h:okN x):x≠"":=by unfold okN at h;simp only[bM,Bool.not_eq_true']at h;exact λz=>by rw[z]at h;simp at h
theorem yH{x:Str}(h:okN x):(x==("__debug__" : Str))=false/\(x==("__classdict__" : Str))=false/\x≠"__name__":=by unfold okN at h;simp only[bM,Bool.not_eq_true']at h;exact⟨h.1.1.1,h.1.1.2,λz=>by rw[z]at h;simp at h⟩
noncomputable def oM(K:aO):Nat->aa->Option W
 |0,_=>aC
 |n+1,v=>match v with
  |.none=>aB .aI
  |.bool b=>aB (.bl b)
  |.int i _=>aB (.int i)
  |.str x _=>aB (.str x)
  |.ref a=>(match K.lookup a with
   |some o=>(match o.cls,o.dict,o.data with
    |.type t,aC,.seq its _=>if t == "tuple" && Nat.ble its.size 1000 then(aW (oM K n) its.toList).map .tup else aC
    |_,_,_=>aC)
   |none=>aC)
  |_=>aC
theorem Oj{K:aO}{f:aa->Option W}(ih:∀v w,f v=aB w->∃x,RelV x v/\∀m n H,aM K m n H x w):∀{us:List aa} {ws:List W},aW f us=aB ws->∃xs,Vals xs us/\∀m n H,aF K m n H xs ws
 |[],_,e=>by cases e;exact⟨[],.nil,λ_ _ _=>.nil⟩
 |u::us,ws,e=>by
  unfold aW at e;split at e;rename_i b hb;split at e;rename_i bs BR;cases e;obtain⟨x,h1,h2⟩:=ih u b hb;obtain⟨xs,h3,h4⟩:=Oj ih BR;exact⟨x::xs,.cons h1 h3,λm n H=>.cons (h2 m n H) (h4 m n H)⟩;cases e;cases e
theorem Ol{K:aO}:∀(n:Nat) (v:aa) (w:W),oM K n v=aB w->∃x,RelV x v/\∀m n H,aM K m n H x w
 |0,_,_,e=>by cases e
 |n+1,v,w,e=>by
  unfold oM at e;split at e;cases e;exact⟨.aI,rfl,λ_ _ _=>.aI⟩;cases e;exact⟨.bl _,rfl,λ_ _ _=>.bl _⟩;cases e;exact⟨.int _,⟨_,rfl⟩,λ_ _ _=>.int _⟩;cases e;exact⟨.str _,⟨_,rfl⟩,λ_ _ _=>.str _⟩;rename_i a;split at e;rename_i o ho;split at e;rename_i t its nn hc ER hd;split at e;rename_i hz;rw[bM]at hz;have ht:t = "tuple":=by simpa using hz.1
  subst ht;cases z:aW (oM K n) its.toList with
  |none=>rw[z]at e;cases e
  |some ws=>
   rw[z]at e;cases e;obtain⟨xs,h3,h4⟩:=Oj (Ol n) z;exact⟨.ref a,rfl,λm n H=>.tup (.inr ⟨o,its,nn,ho,hc,ER,hd,tE (MB (lu hz.2)),h3⟩) (h4 m n H)⟩
  cases e;cases e;cases e;cases e
noncomputable def cL(f:ao->Option E):List ao->Option E
 |[]=>aB .nil
 |e::es=>match f e,cL f es with
  |some a,aB r=>aB (.cons a r)
  |_,_=>aC
noncomputable def fnAt(K:aO)(x:Str):Option (ah×Obj×au):=match gA K x with
 |some f=>(match K.lookup f with
  |some o=>(match o.data with
   |.func fd=>aB (f,o,fd)
   |_=>aC)
  |none=>aC)
 |none=>aC
noncomputable def v5:Arguments->Option (List Arg)|⟨[],args,aC,[],[],aC,_⟩=>aB args|_=>aC
noncomputable def isNone:aa->Bool|.none=>true|_=>false
noncomputable def Fc:Data->Bool
 |.seq xs _=>(match xs.toList with
  |[v]=>isNone v
  |_=>false)
 |_=>false
noncomputable def gB(K:aO):aa->Bool
 |.ref t=>(match K.lookup t with
  |some o=>Fc o.data
  |none=>false)
 |_=>false
noncomputable def Ja(K:aO)(x:Str)(n:Nat):Bool:=match fnAt K x with|some (_,_,fd)=>gB K fd.defaults&&Nat.beq (n+1) fd.params.args.length|none=>false
noncomputable def gP(K:aO)(x:Str):Bool:=match fnAt K x with|some (_,_,fd)=>gB K fd.defaults|none=>false
theorem Yk{K:aO}{x:Str}{n:Nat}(h:Ja K x n):gP K x=true:=by unfold Ja at h;unfold gP;split at h;rw[bM]at h;exact h.1;cases h
noncomputable def mV:E->E|.nil=>.cons (.cst .aI) .nil|.cons a r=>.cons a (mV r)|e=>e
noncomputable def lI:E->Bool|.nil=>true|.cons _ r=>lI r|_=>false
theorem Yl{cl:Call}:∀{a:E},lI a=true->∀(ρ:En) (h:VH),ev cl (mV a) ρ h=(ev cl a ρ h).bind λy h=>match y with|.tup ys=>.ok (.tup (ys++[.aI])) h|_=>.no:=by
 intro a;induction a with
 |nil=>intro _ ρ h;rfl
 |cons x r _ ih=>
  intro ha ρ h;have ih:=ih ha;simp only[mV,ev];cases ev cl x ρ h with
  |no=>rfl
  |ex _ _=>rfl
  |ok w h1=>
   show Res.bind (ev cl (mV r) ρ h1) _=Res.bind (Res.bind (ev cl r ρ h1) _) _;rw[ih];cases ev cl r ρ h1 with|no=>rfl|ex _ _=>rfl|ok y h2=>cases y<;>rfl
 |_=>intro ha;cases ha
theorem Om{f:ao->Option E}:∀{es:List ao} {a:E},cL f es=aB a->lI a=true
 |[],_,h=>by cases h;rfl
 |e::es,a,h=>by
  unfold cL at h;split at h;rename_i x r h1 h2;cases h;show lI r=true;exact Om h2;cases h
noncomputable def BS(f:ao->Option E):List (Option ao)->List ao->Option E
 |[],[]=>aB .nil
 |some k::ks,v::vs=>match f k,f v,BS f ks vs with
  |some a,aB b,aB r=>aB (.cons a (.cons b r))
  |_,_,_=>aC
 |_,_=>aC
noncomputable def cB(and:Bool)(f:ao->Option E):List ao->Option E
 |[]=>aC
 |[a]=>f a
 |a::b::r=>match f a,cB and f (b::r)with
  |some x,aB y=>aB (if and then .and x y else .or x y)
  |_,_=>aC
noncomputable def cO(f:ao->Option E):Option ao->Option (Bool×E)|none=>aB (false,.cst .aI)|some e=>(f e).map λc=>(true,c)
noncomputable def v8(K:aO)(C:CC)(x:Str):Bool:=C.names.lookup x==aB .globalImplicit&& (match PySem.W.nsIn K mainGlobals x with|some aC=>true|_=>false)
noncomputable def v9(x:Str):Option Ty:=
 if x==("int" : Str)then aB .int else if x==("bool" : Str)then aB .bool else if x==("tuple" : Str)then aB .tuple else if x==("list" : Str)then aB .list else if x==("str" : Str)then aB .str else if x==("dict" : Str)then aB .dict else aC
noncomputable def Ym(f:Str)(args:List ao):Option ao:=if f==("list" : Str)then(match args with|[.Call (.Name g _) [a] [] _]=>if g==("range" : Str)then aB a else aC|_=>aC)else aC
noncomputable def wc(x:Str):Option Bi:=
 if x==("len" : Str)then aB .len else if x==("list" : Str)then aB .list else if x==("tuple" : Str)then aB .tuple else if x==("int" : Str)then aB .int else if x==("abs" : Str)then aB .abs else if x==("min" : Str)then aB .min else if x==("all" : Str)then aB .all else if x==("sum" : Str)then aB .sum else if x==("divmod" : Str)then aB .ES else if x==("sorted" : Str)then aB .AS else aC
noncomputable def Oo:ao->Bool|.Tuple ..=>true|_=>false
noncomputable def Fd:Kd->ao->Bool|.p5,t=>Oo t|.zip,t=>Oo t|_,_=>true
noncomputable def gC(C:CC):ao->Option Nat|.Name x _=>if okN x&&rM C.ug (C.names.lookup x)then uh C.N x 0 else aC|_=>aC
noncomputable def Fe(C:CC):ao->Option Tg
 |.Name x p=>(gC C (.Name x p)).map .one
 |.Tuple [.Tuple es _ _,e] _ _=>(match aW (gC C) es,gC C e with
  |some is,aB j=>aB (.two is j)
  |_,_=>aC)
 |.Tuple es _ _=>(aW (gC C) es).map .many
 |_=>aC
noncomputable def ownOf(sc:ay):List Str:=(sc.names.filter λy=>y.2 == .local && !(y.1==(".0" : Str))).map (·.1)
noncomputable def j9(sc:ay):List Str:=(sc.names.filter λy=>y.2 == .free).map (·.1)
noncomputable def we(C:CC)(sc:ay)(ix:List Nat):Bool:=
 decide (sc.kind=.function)&&sc.names.all (λy=>decide (y.2≠.cell))&&sc.names.all (λy=>decide (y.2=.local->sc.names.lookup y.1=aB .local)) &&
 (ownOf sc).all (λx=>decide (sc.names.lookup x=aB .local))&&sc.names.all (λy=>decide (y.2=.free->C.names.lookup y.1=aB .cell\/C.names.lookup y.1=aB .free))&&decide (ix.length=(j9 sc).length) &&
 ((List.range (j9 sc).length).all λk=>match(j9 sc)[k]?,ix[k]? with|some x,aB j=>decide (C.N[j]?=aB x)&&decide (sc.names.lookup x=aB .free)|_,_=>false)&&decide (ownOf sc++j9 sc).Nodup
noncomputable def rN(sc:ay):CC:=⟨ownOf sc++j9 sc,sc.names,false⟩
noncomputable def Jb:ao->Bool|.Dict [] [] _=>true|_=>false
noncomputable def Jc(x:Str):Bool:=x==("counts" : Str)||x==("_law_counts" : Str)||x==("_law_found" : Str)
noncomputable def Yn(x:Str):Bool:=x==("rockers" : Str)
mutual
noncomputable def cE(K:aO)(T:List Str):Nat->CC->ao->Option E
 |0,_,_=>aC
 |n+1,C,e=>match e with
  |.Name x _=>if okN x then(if rL (C.names.lookup x)then(uh C.N x 0).map .var
   else if C.names.lookup x==aB .globalImplicit then(match PySem.W.nsIn K mainGlobals x with|some (aB v)=>(oM K 8 v).map .cst|_=>aC)else aC)else aC
  |.Constant c _ _=>(match c with
   |.int i=>aB (.cst (.int i))
   |.bool b=>aB (.cst (.bl b))
   |.none=>aB (.cst .aI)
   |.str x=>aB (.cst (.str x))
   |_=>aC)
  |.Tuple es _ _=>(cL (cE K T n C) es).map .tup
  |.List es _=>(cL (cE K T n C) es).map .lst
  |.Dict ks vs _=>if Nat.ble ks.length 15&&Nat.beq ks.length vs.length&&ks.all (·.isSome)then(BS (cE K T n C) ks vs).map .nt else aC
  |.BinOp a O b _=>(match A7 O,cE K T n C a,cE K T n C b with
   |some o,aB x,aB y=>aB (.op o x y)
   |_,_,_=>aC)
  |.UnaryOp o a _=>(match o with
   |.Not=>(cE K T n C a).map .not
   |.USub=>(cE K T n C a).map .neg
   |_=>aC)
  |.BoolOp o es _=>(match o with
   |.And=>cB true (cE K T n C) es
   |.Or=>cB false (cE K T n C) es)
  |.Compare a Os bs _=>(match Os,bs with
   |[O],[b]=>if qa b then(match gO O,cE K T n C a,cE K T n C b with
   |some c,aB x,aB y=>aB (.cmp c x y)
   |_,_,_=>aC)else aC
   |[O,O'],[b,c]=>if qa c then(match gO O,gO O',cE K T n C a,cE K T n C b,cE K T n C c with
   |some o,aB o',aB x,aB y,aB z=>aB (.vP o o' x y z)
   |_,_,_,_,_=>aC)else aC
   |_,_=>aC)
  |.IfExp c a b _=>(match cT K T n C c,cE K T n C a,cE K T n C b with
   |some z,aB x,aB y=>aB (.ite z x y)
   |_,_,_=>aC)
  |.Subscript a b _=>(match b with
   |.Slice lo hi st _=>(match st with
    |none=>(match cE K T n C a,cO (cE K T n C) lo,cO (cE K T n C) hi with
   |some x,aB (bl,l),aB (bh,u)=>aB (.slc x bl l bh u)
   |_,_,_=>aC)
    |some _=>aC)
   |b=>if BE b then(match cE K T n C a,cE K T n C b with
   |some x,aB y=>aB (.idx x y)
   |_,_=>aC)else aC)
  |.Call fn args kw pos=>(match kw with
   |[]=>(match fn with
    |.Name f _=>if okN f&&C.names.lookup f==aB .globalImplicit then(match PySem.W.nsIn K mainGlobals f with
     |some aC=>if f==("isinstance" : Str)then(match args with
      |[a,.Name t _]=>(match v9 t,cE K T n C a with
       |some ty,aB x=>if okN t&&v8 K C t then aB (.nY ty x)else aC
       |_,_=>aC)
      |_=>aC)
      else(match wc f,args with|some b,_::_=>(cL (cE K T n C) args).map (.bi b)|_,_=>aC)
     |some (aB _)=>(match uh T f 0 with
      |some i=>if Ja K f args.length && !args.isEmpty then(cL (cE K T n C) args).map (λa=>.call i (mV a))else(cL (cE K T n C) args).map (.call i)
      |none=>aC)
     |none=>aC)else aC
    |.Attribute o Oq ap=>if EZ o&& (ap.endLine==pos.line)then(match cE K T n C o,args with
     |some x,[a]=>if Oq==("append" : Str)then(cE K T n C a).map λy=>.mt .append x (.cons y .nil)else aC
     |some x,[a,b]=>if Oq==("get" : Str)then(match cE K T n C a,cE K T n C b with
      |some y,aB z=>aB (.mt .get x (.cons y (.cons z .nil)))
      |_,_=>aC)else aC
     |_,_=>aC)else aC
    |_=>aC)
   |_=>aC)
  |.ListComp elt gs sc _=>(match gs with
   |[⟨tg,iter,ifs,0⟩]=>(match aW (λx=>uh C.N x 0) (j9 sc)with
    |some ix=>if we C sc ix then(match cW K T n C iter,Fe (rN sc) tg,(match ifs with|[]=>aB (.cst (.bl true))|[c]=>cT K T n (rN sc) c|_=>aC),cE K T n (rN sc) elt with
     |some (kd,a),aB t,aB c,aB e=>if Fd kd tg then aB (.lc kd a t (ownOf sc).length ix c e)else aC
     |_,_,_,_=>aC)else aC
    |none=>aC)
   |_=>aC)
  |_=>aC
noncomputable def cT(K:aO)(T:List Str):Nat->CC->ao->Option E
 |0,_,_=>aC
 |n+1,C,e=>match e with
  |.Compare a Os bs _=>(match Os,bs with
   |[O],[b]=>if qa b then(match gO O,cE K T n C a,cE K T n C b with
   |some c,aB x,aB y=>aB (.cmp c x y)
   |_,_,_=>aC)else aC
   |[O,O'],[b,c]=>if qa c then(match gO O,gO O',cE K T n C a,cE K T n C b,cE K T n C c with
   |some o,aB o',aB x,aB y,aB z=>aB (.vP o o' x y z)
   |_,_,_,_,_=>aC)else aC
   |_,_=>aC)
  |.UnaryOp o a _=>(match o with
   |.Not=>(cT K T n C a).map .not
   |_=>aC)
  |.BoolOp o es _=>(match o with
   |.And=>cB true (cT K T n C) es
   |.Or=>cB false (cT K T n C) es)
  |.Name x p=>(cE K T n C (.Name x p)).map .jb
  |.Call f as ks p=>(cE K T n C (.Call f as ks p)).map .jb
  |.Subscript a b p=>(cE K T n C (.Subscript a b p)).map .jb
  |_=>aC
noncomputable def cW(K:aO)(T:List Str):Nat->CC->ao->Option (Kd×E)
 |0,_,_=>aC
 |n+1,C,e=>match e with
  |.Call (.Name f p) args [] pos=>if f==("range" : Str)then(if v8 K C f then(match args with
   |[a]=>(cE K T n C a).map λx=>(.fj,.cons x .nil)
   |_=>aC)else aC)
   else if f==("enumerate" : Str)then(if v8 K C f then(match args with|[a]=>(cE K T n C a).map λx=>(.p5,x)|_=>aC)else aC)
   else if f==("reversed" : Str)then(if v8 K C f then(match args with|[a]=>(cE K T n C a).map λx=>(.rev,x)|_=>aC)else aC)
   else if f==("zip" : Str)then(if v8 K C f then(match args with
    |[a,b]=>(match cE K T n C a,cE K T n C b with
     |some x,aB y=>aB (.zip,.cons x (.cons y .nil))
     |_,_=>aC)
    |_=>aC)else aC)
   else(cE K T n C (.Call (.Name f p) args [] pos)).map λx=>(.seq,x)
  |.Set ..=>aC
  |.Name x p=>(cE K T n C (.Name x p)).map λc=>if Jc x then(.keys,.bi .bN (.cons c .nil))else(if Yn x then .keys else .seq,c)
  |e=>(cE K T n C e).map λx=>(.seq,x)
end
noncomputable def oN(f:aq->Option S):List aq->Option S
 |[]=>aB .skip
 |s::r=>match f s,oN f r with
  |some a,aB b=>aB (.seq a b)
  |_,_=>aC
noncomputable def cS(K:aO)(T:List Str)(d:Nat):Nat->CC->aq->Option S
 |0,_,_=>aC
 |n+1,C,s=>match s with
  |.Pass _=>aB .skip
  |.Break _=>aB .brk
  |.Continue _=>aB .cnt
  |.Raise ..=>aB .no
  |.Return r _=>(match r with
   |none=>aB (.ret (.cst .aI))
   |some e=>(cE K T d C e).map .ret)
  |.Expr e _=>if E5 e then(cE K T d C e).map .expr else aC
  |.Assign l e _=>(match l with
   |[t]=>(match t with
    |.Name x p=>(match gC C (.Name x p),cE K T d C e with
    |some i,aB c=>aB (.set i (if Jc x&&Jb e then .bi .AU .nil else c))
    |_,_=>aC)
    |.Tuple ts _ _=>if oF e then(match aW (gC C) ts,cE K T d C e with
    |some is,aB c=>aB (.lH is c)
    |_,_=>aC)else aC
    |.Subscript o i _=>if BE i then(match cE K T d C o,cE K T d C i,cE K T d C e with
    |some x,aB y,aB z=>aB (.put x y z)
    |_,_,_=>aC)else aC
    |_=>aC)
   |_=>aC)
  |.AugAssign t O e _=>(match t with
   |.Name x p=>(match gC C (.Name x p),rH O,cE K T d C e with
    |some i,aB o,aB c=>aB (.aug i o c)
    |_,_,_=>aC)
   |_=>aC)
  |.If c a b _=>(match cT K T d C c,oN (cS K T d n C) a,oN (cS K T d n C) b with
   |some z,aB x,aB y=>aB (.ite z x y)
   |_,_,_=>aC)
  |.For tg it b el _=>(match el with
   |[]=>(match cW K T d C it,Fe C tg,oN (cS K T d n C) b with
    |some (kd,a),aB t,aB x=>if Fd kd tg then aB (.for kd a t x)else aC
    |_,_,_=>aC)
   |_=>aC)
  |.While c b el _=>(match el with
   |[]=>(match cT K T d C c,oN (cS K T d n C) b with
    |some z,aB x=>aB (.n9 z x)
    |_,_=>aC)
   |_=>aC)
  |_=>aC
structure gZ(X:Cx)(C:CC)(T:List Str)(F:Nat->Option Fn)(k:Nat):Prop where
 hN:X.N=C.N
 nd:C.N.Nodup
 vis:∀x,rL (C.names.lookup x)=true->yh X.env.scope x
 loc:∀x,rM C.ug (C.names.lookup x)=true->Loc X.env.scope x/\(X.fn x=true\/X.env.scope.names.lookup x=aB .local)
 gl:∀x,C.names.lookup x=aB .globalImplicit->Gl X x
 cf:∀x,(C.names.lookup x=aB .cell\/C.names.lookup x=aB .free)->X.env.kindOf x=aB .cell\/X.env.kindOf x=aB .free
 calm:X.calm=true
 room:dB k X.A
 xe:X.xe=λ_ _=>False
 Ot:X.env.scope.kind=.function
 BU:∀x v,PySem.W.nsIn X.K mainGlobals x=aB (aB v)->X.mg x=aB v
 Jd:∀x,PySem.W.nsIn X.K mainGlobals x=aB aC->X.mg x=aC
 fns:∀(i:Nat)(x:Str),T[i]?=aB x->x≠""->∃f fd ps fn,gA X.K x=aB f/\fU X.prog X.w X.K X.mg X.base lD k f fd ps (oA X.K ps.length (run F k i))/\PySem.W.keepIn X.K (.ref f)=true/\Binds X.K fd ps []/\F i=aB fn/\fn.ps=ps.length/\(gP X.K x=true->Binds X.K fd ps [.none])
section
variable{X:Cx}{C:CC}{T:List Str}{F:Nat->Option Fn}{k:Nat}
theorem gZ.Ff(O:gZ X C T F k):X.A.units+65<cLine:=by have:=O.room.un;lia
theorem gZ.u2(O:gZ X C T F k):X.A.units+2<cLine:=pU (zo (by decide:2<=64) _) O.room.units
theorem gZ.u1(O:gZ X C T F k):X.A.units+1<cLine:=pU (zo (by decide:1<=64) _) O.room.units
theorem BV(O:gZ X C T F k){x:Str}(h:v8 X.K C x):Gl X x/\X.mg x=aC:=by unfold v8 at h;rw[bM]at h;refine⟨O.gl x (by simpa using h.1),O.Jd x ?_⟩;have h2:=h.2;split at h2;assumption;cases h2
theorem jn(O:gZ X C T F k){e:ao}{i:Nat}(h:gC C e=aB i):kR X e i:=by unfold gC at h;split at h;split at h;rename_i hc;rw[bM]at hc;obtain⟨h1,h2⟩:=O.loc _ hc.2;exact⟨_,_,rfl,by rw[O.hN];exact I0 h,h1,h2⟩;cases h;cases h
theorem Fg(O:gZ X C T F k):∀{es:List ao} {is:List Nat},aW (gC C) es=aB is->Paired (kR X) es is
 |[],_,h=>by cases h;exact .nil
 |e::es,is,h=>by
  unfold aW at h;split at h;rename_i b hb;split at h;rename_i bs BR;cases h;exact .cons (jn O hb) (Fg O BR);cases h;cases h
theorem um(O:gZ X C T F k){e:ao}{t:Tg}(h:Fe C e=aB t):PG X e (gy X.K t):=by
 unfold Fe at h;split at h;rename_i x p;cases z:gC C (.Name x p)with
 |none=>rw[z]at h;cases h
 |some i=>
  rw[z]at h;cases h;obtain⟨x',p',e,h1,h2,h3⟩:=jn O z;cases e;exact NF (O.hN▸O.nd) h1 h2 h3
 split at h;rename_i is j z z2;cases h;obtain⟨x',p',e,h1,h2,h3⟩:=jn O z2;exact W4 O.calm (O.hN▸O.nd) (Fg O z) ⟨x',p',e,h1,h2,h3⟩;cases h;rename_i es kx p _;cases z:aW (gC C) es with|none=>rw[z]at h;cases h|some is=>rw[z]at h;cases h;exact Iv O.calm (O.hN▸O.nd) (Fg O z)
 cases h
theorem jo{f:ao->Option E}{cl:Call}(ih:∀e c,f e=aB c->SE X e (ev cl c)/\iy e):∀{es:List ao} {c:E},cL f es=aB c->SA X es (ev cl c)/\es.all iy=true
 |[],_,h=>by cases h;exact⟨Ig,rfl⟩
 |e::es,c,h=>by
  unfold cL at h;split at h;rename_i a r ha hr;cases h;obtain⟨h1,h2⟩:=ih e a ha;obtain⟨h3,h4⟩:=jo ih hr;exact⟨EV h1 h3 (iK h2),by rw[mh,h2,h4];rfl⟩;cases h
theorem Ou{f:ao->Option E}{cl:Call}{pos:Pos}(ih:∀e c,f e=aB c->SE X e (ev cl c)/\iy e):∀{ks:List (Option ao)} {vs:List ao} {c:E},BS f ks vs=aB c->Bo X pos ks vs (ev cl c)
 |[],[],_,h=>by cases h;exact WD
 |[],_::_,_,h=>by cases h
 |none::_,_,_,h=>by cases h
 |some _::_,[],_,h=>by cases h
 |some a::ks,v::vs,c,h=>by
  unfold BS at h;split at h;rename_i x y r hx hy hr;cases h;exact WE (ih _ _ hx).1 (ih _ _ hy).1 (Ou ih hr);cases h
theorem lJ{f:ao->Option E}{cl:Call}{pos:Pos}(ih:∀e c,f e=aB c->SE X e (ev cl c)/\iy e):∀{es:List ao} {c:E},(cB true f es=aB c->SE X (.BoolOp .And es pos) (ev cl c))/\(cB false f es=aB c->SE X (.BoolOp .Or es pos) (ev cl c))
 |[],_=>⟨(λh=>nomatch h),(λh=>nomatch h)⟩
 |[a],c=>⟨λh=>Nl (ih a c h).1,λh=>Nl (ih a c h).1⟩
 |a::b::r,c=>by
  refine⟨λh=>?_,λh=>?_⟩;unfold cB at h;split at h;rename_i x y hx hy;cases h;exact Wa (ih a x hx).1 ((lJ ih).1 hy);cases h;unfold cB at h;split at h;rename_i x y hx hy;cases h;exact Bg (ih a x hx).1 ((lJ ih).2 hy);cases h
theorem Fi{f:ao->Option E}{cl:Call}{pos:Pos}(ih:∀e c,f e=aB c->ST X e (ev cl c)):∀{es:List ao} {c:E},(cB true f es=aB c->SW X (.BoolOp .And es pos) (ev cl c))/\(cB false f es=aB c->SW X (.BoolOp .Or es pos) (ev cl c))
 |[],_=>⟨(λh=>nomatch h),(λh=>nomatch h)⟩
 |[a],c=>⟨λh=>Nk (ih a c h),λh=>Nk (ih a c h)⟩
 |a::b::r,c=>by
  refine⟨λh=>?_,λh=>?_⟩;unfold cB at h;split at h;rename_i x y hx hy;cases h;exact V9 (ih a x hx) ((Fi ih).1 hy);cases h;unfold cB at h;split at h;rename_i x y hx hy;cases h;exact Bf (ih a x hx) ((Fi ih).2 hy);cases h
theorem uo{f:ao->Option E}{cl:Call}(ih:∀e c,f e=aB c->SE X e (ev cl c)/\iy e){o:Option ao}{b:Bool}{c:E}(h:cO f o=aB (b,c)):PO X o (jG X.K b (ev cl c)):=by
 unfold cO at h;split at h;cases h;exact Wh;rename_i e;cases z:f e with|none=>rw[z]at h;cases h|some c'=>rw[z]at h;cases h;exact Wi (ih _ _ z).1
theorem Yo{x:Str}{t:Ty}(h:v9 x=aB t):bootBuiltins x=aB (.type (rF t)):=by unfold v9 at h;split at h;rename_i e;cases h;rw[show x = "int" by simpa using e];exact PyProof.Rows.boot_int;split at h;rename_i e;cases h;rw[show x = "bool" by simpa using e];decide +kernel;split at h;rename_i e;cases h;rw[show x = "tuple" by simpa using e];exact PyProof.Rows.boot_tuple;split at h;rename_i e;cases h;rw[show x = "list" by simpa using e];exact PyProof.Rows.boot_list;split at h;rename_i e;cases h;rw[show x = "str" by simpa using e];decide +kernel;split at h;rename_i e;cases h;rw[show x = "dict" by simpa using e];decide +kernel;cases h
theorem BW{x:Str}{b:Bi}{e:ao}{es:List ao}{fa:FE}{p pos:Pos}(h:wc x=aB b)(hg:Gl X x)(hm:X.mg x=aC)(hn:okN x)(hc:X.calm)(ha:SA X (e::es) fa)(hs:(e::es).all iy):SE X (.Call (.Name x p) (e::es) [] pos) (jH fa (gT b)):=by
 obtain⟨n1,_,n2⟩:=yH hn;unfold wc at h;split at h;rename_i z;cases h;have z:x = "len":=by simpa using z
 subst z;exact vV (TN.or VG) Wl hg hm PySem.boot_len ha hs n2 n1;split at h;rename_i z;cases h;have z:x = "list":=by simpa using z
 subst z;exact Iq (TQ.or (X8 hc)) Wn hg hm PyProof.Rows.boot_list ha hs n2 n1;split at h;rename_i z;cases h;have z:x = "tuple":=by simpa using z
 subst z;exact Iq (TR.or (VI hc)) Wo hg hm PyProof.Rows.boot_tuple ha hs n2 n1;split at h;rename_i z;cases h;have z:x = "int":=by simpa using z
 subst z;exact Iq S4 Wq hg hm PyProof.Rows.boot_int ha hs n2 n1;split at h;rename_i z;cases h;have z:x = "abs":=by simpa using z
 subst z;exact vV S2 Wr hg hm (by decide +kernel) ha hs n2 n1;split at h;rename_i z;cases h;have z:x = "min":=by simpa using z
 subst z;exact vV (S3 hc) Ws hg hm (by decide +kernel) ha hs n2 n1;split at h;rename_i z;cases h;have z:x = "all":=by simpa using z
 subst z;exact vV (Ve hc) Wt hg hm (by decide +kernel) ha hs n2 n1;split at h;rename_i z;cases h;have z:x = "sum":=by simpa using z
 subst z;exact vV (XM hc) Yb hg hm (by decide +kernel) ha hs n2 n1;split at h;rename_i z;cases h;have z:x = "divmod":=by simpa using z
 subst z;exact vV S5 Yc hg hm (by decide +kernel) ha hs n2 n1;split at h;rename_i z;cases h;have z:x = "sorted":=by simpa using z
 subst z;exact vV Yd Ye hg hm (by decide +kernel) ha hs n2 n1;cases h
theorem Yp{b:ao}(h:BE b):Hs b:=λo i=>by cases b<;>first|rfl|cases h
end
section
variable{X:Cx}{C:CC}{T:List Str}{F:Nat->Option Fn}{k:Nat}
theorem wg{env:Env}{kd:NameKind}(hk:kd≠.free):∀{l:List (Str×NameKind)} {x:Str},l.lookup x=aB kd->
 (l.map λ(n,k)=>if(k==NameKind.free&&env.scope.kind == .function&&env.kindOf n==aB .cell)then(n,NameKind.cell)else(n,k)).lookup x=aB kd
 |[],_,h=>by cases h
 |(n,j)::r,x,h=>by
  rw[dz];simp only[jx]at h;by_cases hx:(x==n)=true;simp only[hx]at h;cases h;have:(kd==NameKind.free)=false:=by simpa using hk
  simp only[this,xT,eW,dF,jx,hx];have hx':(x==n)=false:=by simpa using hx
  simp only[hx']at h;have ih:=wg (env:=env) hk (l:=r) (x:=x) h;by_cases hc':(j==NameKind.free&&env.scope.kind == .function&&env.kindOf n==aB .cell)=true;simp only[hc',b9,jx,hx'];exact ih;have hcf:(j==NameKind.free&&env.scope.kind == .function&&env.kindOf n==aB .cell)=false:=by simpa using hc'
  simp only[hcf,eW,dF,jx,hx'];exact ih
theorem Ov(O:gZ X C T F k){sc:ay}{ix:List Nat}(h:we C sc ix):bW X (ownOf sc) (j9 sc) ix sc/\(ownOf sc++j9 sc).Nodup:=by
 unfold we at h;simp only[bM,gH,lq]at h;obtain⟨⟨⟨⟨⟨⟨⟨h1,h2⟩,h3⟩,h4⟩,h5⟩,h6⟩,h7⟩,h8⟩:=h;refine⟨⟨h1,h2,h3,h4,λy hy e=>O.cf _ (h5 y hy e),λq x e=>?_,h6⟩,h8⟩;have hk:q< (j9 sc).length:=(jK.mp e).1;have:=h7 q (tw.mpr hk);rw[e]at this;cases z:ix[q]? with
 |none=>rw[z]at this;cases this
 |some j=>
  rw[z]at this;simp only[bM,gH]at this;exact⟨j,rfl,by rw[O.hN];exact this.1,this.2⟩
theorem Je(O:gZ X C T F k){sc:ay}{ix:List Nat}(h:we C sc ix)(D:ah)(s₀:af)(H₀:Hp)(ex:List ah):gZ (X.comp (ownOf sc++j9 sc) sc D s₀ H₀ ex) (rN sc) T F k:=by
 obtain⟨S,nd⟩:=Ov O h;refine⟨rfl,nd,λx hx=>?_,λx hx=>?_,λx hx=>?_,λx hx=>?_,O.calm,O.room,rfl,S.kind,O.BU,O.Jd,O.fns⟩;have hx:rL (sc.names.lookup x)=true:=hx;cases z:sc.names.lookup x with
 |none=>rw[z]at hx;cases hx
 |some kd=>
  cases kd with
  | «local»=>exact .inl (wg (by decide) z)
  |cell=>exact .inr (.inl (wg (by decide) z))
  |free=>
   have:=EC (env:=X.env) O.Ot z;by_cases hc:X.env.kindOf x=aB .cell;rw[if_pos hc]at this;exact .inr (.inl this);rw[if_neg hc]at this;exact .inr (.inr this)
  |globalExplicit=>rw[z]at hx;cases hx
  |globalImplicit=>rw[z]at hx;cases hx
 have hx:rM false (sc.names.lookup x)=true:=hx;cases z:sc.names.lookup x with
 |none=>rw[z]at hx;cases hx
 |some kd=>
  cases kd with| «local»=>exact⟨.inl (wg (by decide) z),.inr (wg (by decide) z)⟩|cell=>rw[z]at hx;cases hx|free=>rw[z]at hx;cases hx|globalExplicit=>rw[z]at hx;cases hx|globalImplicit=>rw[z]at hx;cases hx
 exact wg (by decide) hx;have hx:sc.names.lookup x=aB .cell\/sc.names.lookup x=aB .free:=hx;rcases hx with z|z
 exact .inl (wg (by decide) z);have:=EC (env:=X.env) O.Ot z;by_cases hc:X.env.kindOf x=aB .cell;rw[if_pos hc]at this;exact .inl this;rw[if_neg hc]at this;exact .inr this
end
end RF
namespace L2
open PySem PySem.Spec PyProof.Rows
theorem BX:Slot "reversed" "__next__" "reversed.__next__":=
 .of (owner:="reversed") (n:="__next__") (by rw[Dr,Dl];kernel_rfl) (by decide +kernel) (by decide +kernel) (by decide +kernel)
  (by first|exact .inl (by decide +kernel)|exact .inr (by decide +kernel)) (by rw[Ds];kernel_rfl)
theorem Ow:Slot "reversed" "__iter__" "reversed.__iter__":=
 .of (owner:="reversed") (n:="__iter__") (by rw[Dr,Dl];kernel_rfl) (by decide +kernel) (by decide +kernel) (by decide +kernel)
  (by first|exact .inl (by decide +kernel)|exact .inr (by decide +kernel)) (by rw[Ds];kernel_rfl)
theorem Yq:Slot "reversed" "__init__" "object.__init__":=
 .of (owner:="object") (n:="__init__") (by rw[Dr,Dl];kernel_rfl) (by decide +kernel) (by decide +kernel) (by decide +kernel)
  (by first|exact .inl (by decide +kernel)|exact .inr (by decide +kernel)) (by rw[Ds];kernel_rfl)
theorem Ox:Manifest.owners.lookup (String.ofList ['d','e','s','r','e','v','e','r'].reverse)=aB Manifest.sig_reversed:=by kernel_rfl
theorem Oz(a:aa):argsOk "reversed.__next__" ⟨[a],[]⟩:=by unfold argsOk;rw[signature?_of (id:="reversed.__next__") (n:=['_','_','t','x','e','n','_','_']) (o:=['d','e','s','r','e','v','e','r']) (by kernel_rfl) Ox];kernel_rfl
theorem Yr(a:aa):argsOk "reversed.__iter__" ⟨[a],[]⟩:=by unfold argsOk;rw[signature?_of (id:="reversed.__iter__") (n:=['_','_','r','e','t','i','_','_']) (o:=['d','e','s','r','e','v','e','r']) (by kernel_rfl) Ox];kernel_rfl
theorem OA:entryFor table "reversed.__next__" = aB Builtin.«reversed.__next__»:=entryFor_of_tree (by kernel_rfl)
theorem Ys:entryFor table "reversed.__iter__" = aB Builtin.«dict_keyiterator.__iter__»:=
 entryFor_alias (id':="dict_keyiterator.__iter__") (by kernel_rfl) (by first|rfl|decide +kernel|(unfold String.splitOn;simp +decide [String.splitOnAux])) (by decide +kernel) (by kernel_rfl)
theorem Yt:TypeCalled "reversed" "reversed.__new__" "object.__init__":=
 ⟨by decide +kernel,by decide +kernel,⟨_,_,F.mro_reversed⟩,F.made_reversed,by decide +kernel,by rw[Ds];kernel_rfl,Yq⟩
theorem Yu:typeLookup (.type "tuple") "__reversed__" = pure aC:=by rw[Dr,Dl];kernel_rfl
noncomputable def jc(h:az)(I t:ah)(i:Int):Prop:=∃o,h.get? I=aB o/\o.cls=.type "reversed"/\o.data=.fields #[.ref t,rawInt i]
noncomputable def uq(t:ah)(i:Int):Obj:={cls:=.type "reversed",data:=.fields #[.ref t,rawInt i]}
section
variable{prog:ai}{w:aj}{A:ak}{E:aa->af->Prop}{s:af}
theorem jc.typeIs{I t:ah}{i:Int}(x:jc s.heap I t i):s.TypeIs (.ref I) "reversed":=let⟨o,ho,hc,_⟩:=x;⟨o,ho,hc⟩
theorem jc.mv{h h':az}{I t:ah}{i:Int}(x:jc h I t i)(e:∀o,h.get? I=aB o->h'.get? I=aB o):jc h' I t i:=let⟨o,ho,r⟩:=x;⟨o,e _ ho,r⟩
theorem OB{I t:ah}{i:Int}{Q:aa->af->Prop}(hi:jc s.heap I t i)(h:Q (.ref I) s):wpAny (model prog w) A (pyIter (.ref I)) Q E s:=by refine wpAny_pyIter_slot hi.typeIs Ow (kG Ow hi.typeIs Ys ?_ (Yr _));show wpAny _ _ (ret (.ref I)) _ _ s;exact bg ⟨_,rfl,"reversed",_,hi.typeIs,BX.lookup,h⟩
theorem Yv{I t:ah}{i:Nat}{its:Array aa}{x:aa}{Q:Option aa->af->Prop}(hi:jc s.heap I t (i:Int))(ht:IsTup s.heap t its)(hx:its[i]?=aB x)(hf:(its.size:Int)<2 ^ 63)
 (hQ:∀h' tk,jc h' I t ((i:Int)-1)->Heap.SameBut I s.heap h'->Q (aB x) {s with heap:=h',toks:=tk}):wpAny (model prog w) A (pyNext (.ref I)) Q E s:=by
 obtain⟨o,ho,hc,hd⟩:=id hi;have hlt:i<its.size:=by rcases Nat.lt_or_ge i its.size with h|h;exact h;rw[Array.getElem?_eq_none h]at hx;cases hx
 unfold pyNext;refine aJ (xJ (pQ (name:=Str.ofString "__next__") hi.typeIs BX
  (kG BX hi.typeIs OA ?_ (Oz _))))
 unfold Builtin.«reversed.__next__»;refine aJ (qo (a:=(Value.ref I,[])) rfl ?_)
 try dsimp only
 refine aJ (jf ho hd (x:=.ref t) rfl ?_);refine aJ (jf ho hd (x:=rawInt (i:Int)) rfl ?_);show wpAny _ _ (if(i:Int)<0 then _ else _) _ _ s;rw[if_neg (by lia)];refine aJ (vcs ht.typeIs slot_tuple_getitem.lookup ?_);rw[if_neg (by exact nJ)];refine aJ (wpAny_mkInt ?_);refine aJ (xJ (getItem_tuple (s:={s with toks:=s.toks+1}) ht (by lia) (by lia) (Dy (by lia) (by lia)) (by simpa using hx) ?_))
 try dsimp only
 refine aJ (jf ho hd (x:=rawInt (i:Int)) rfl ?_);refine aJ (u6 ho hd (by simp) ?_);first
 |refine bg ⟨x,rfl,bg (hQ _ _ ?_ (tG ..))⟩
 |refine aJ (bg (bg ⟨x,rfl,bg (hQ _ _ ?_ (tG ..))⟩))
 exact⟨_,zp _ ho (DW (tH hd _)),(Obj.cls_mapFields ..).trans hc,by
  rw[tH hd];simp⟩
theorem Yw{I t:ah}{i:Int}{Q:Option aa->af->Prop}(hA:A.handled=aC)(hi:jc s.heap I t i)(hn:i<0)
 (hQ:∀h',Heap.ExtBut I s.heap h'->Q aC {s with heap:=h'}):wpAny (model prog w) A (pyNext (.ref I)) Q E s:=by
 obtain⟨o,ho,hc,hd⟩:=id hi;unfold pyNext;refine aJ (xJ (pQ (name:=Str.ofString "__next__") hi.typeIs BX
  (kG BX hi.typeIs OA ?_ (Oz _))))
 unfold Builtin.«reversed.__next__»;refine aJ (qo (a:=(Value.ref I,[])) rfl ?_)
 try dsimp only
 refine aJ (jf ho hd (x:=.ref t) rfl ?_);refine aJ (jf ho hd (x:=rawInt i) rfl ?_);show wpAny _ _ (if i<0 then _ else _) _ _ s;rw[if_pos hn];refine aJ (u7 ?_);refine aJ ?_;show wpAny _ _ (setField (.ref I) 1 (rawInt (-1)) >>= _) _ _ _;have o1:=zp (h:=s.heap) (Obj.mapFields (·.setIfInBounds 1 (rawInt (-1)))) ho (DW (tH hd _));refine aJ (u6 ho hd (by simp) ?_);refine u6 o1 (tH hd _) (by simp) ?_;first
 |show wpAny _ _ (newExc (.type "StopIteration") [] >>= _) _ _ _
 |(refine aJ ?_;show wpAny _ _ (newExc (.type "StopIteration") [] >>= _) _ _ _)
 refine aJ ?_;simp only[newExc,newTuple];refine aJ (k9 ?_ (by size_fits));refine aJ (m:=firstArgMember _ _) (qo (a:=Value.none) (by first|rfl|(simp only[firstArgMember];rfl)) ?_);refine k9 ?_ (by size_fits);simp only[raiseNew];refine aJ (wpAny_handled ?_);first|rw[show A.in1.handled=aC from hA]|rw[hA]
 refine aJ (bg (wpAny_throw ?_));refine aJ (uZ (T:="StopIteration") (b:=true) ⟨_,gh _ rfl,rfl⟩ isSubtype_stop ?_);refine bg (hQ _ ?_);refine Heap.ExtBut.push (Heap.ExtBut.push ?_ _) _;intro b ob hb e;exact(tG ..).extBut b ob hb ((tG ..).extBut b ob hb e)
theorem Yx(l:ah)(its:Array aa)(n:Nat)(dc:Option ah)(sl:Array (Option aa))(hf:(its.size:Int)<2 ^ 63) :
 Meets (Builtin.«reversed.__new__» ⟨[.type "reversed",.ref l],[]⟩) (λ_ R s=>s.heap.get? l=aB {cls:=.type "tuple",dict:=dc,data:=.seq its n,slots:=sl}/\
  ∀tk,R (.ok (.ret (.ref s.heap.objs.size))) {s with heap:=s.heap.push (uq l ((its.size:Int)-1)),toks:=tk}):=
 .of_wp λprog w A R s h=>by
  obtain⟨e,h⟩:=h;have hl:IsTup s.heap l its:=⟨_,e,rfl,n,rfl⟩
  unfold Builtin.«reversed.__new__»;refine aJ (qo (newClass_reversed _) ?_)
  try dsimp only
  refine aJ (qo (a:=()) (by first|rfl|kernel_rfl) ?_);refine aJ (qo (a:=()) (by first|rfl|kernel_rfl) ?_)
  try dsimp only
  refine aJ (vcs hl.typeIs Yu ?_)
  try dsimp only
  refine aJ ?_;show wpAny _ _ (isInstance (.ref l) (.type "dict") >>= _) _ _ _;refine aJ (uZ hl.typeIs F.sub_tuple_dict ?_)
  try dsimp only
  refine aJ (vcs hl.typeIs slot_tuple_getitem.lookup ?_)
  try dsimp only
  rw[if_pos (by decide)];refine bg ?_;rw[if_neg (show ¬((!true)=true)from nJ)];refine aJ (len_tuple hl hf ?_);refine aJ (qo (a:=aB (its.size:Int)) rfl ?_)
  try dsimp only
  refine aJ ?_;show wpAny _ _ (newObj (.type "reversed") (.fields #[.ref l,rawInt ((its.size:Int)-1)])) _ _ _;exact k9 (bg ⟨_,rfl,h _⟩)
theorem Yy{l:ah}{its:Array aa}{Q:aa->af->Prop}(hL:s.heap.IsTuple l its)(hf:(its.size:Int)<2 ^ 63)
 (h:∀tk,Q (.ref s.heap.objs.size) {s with heap:=s.heap.push (uq l ((its.size:Int)-1)),toks:=tk}) :
 wpAny (model prog w) A (call (.type "reversed") [.ref l]) Q E s:=by
 obtain⟨⟨c,dc,dt,sl⟩,e1,e2,n,e3⟩:=hL
 replace e2:c=.type "tuple":=e2
 replace e3:dt=.seq its n:=e3;subst e2 e3;refine Dw Yt (by decide) (F.typeCall_reversed_1 _) (F.newCall_reversed_1 _) (λobj=>F.args_object_init_2 obj _) F.entry_reversed_new (Yx l its n dc sl hf) ⟨e1,λtk=>?_⟩;exact⟨⟨_,gh _ rfl,rfl⟩,h tk⟩
end
noncomputable def Jf(K:aO)(a:ah)(n:Nat):It:=
 ⟨λi H=>∃xs x,bZ K H a xs/\xs.length=n/\xs.reverse[i]?=aB x,λi H x H'=>H'=H/\∀xs,bZ K H a xs->xs.reverse[i]?=aB x,λi _=>n<=i⟩
theorem Yz{P:ai}{w:aj}{K:aO}{tg:ao}(a it:ah)(n:Nat)(hn:(n:Int)<2 ^ 63):Turn P w K tg (Jf K a n) [it] it (λi h=>jc h it a ((n:Int)-1- (i:Nat)))where
 mem:=by simp
 obj:=λi h st b hb=>by
  have e:b=it:=by simpa using hb
  subst e;obtain⟨o,e,c,d⟩:=st;exact⟨o,e,λv z=>by rw[d]at z;cases z⟩
 keep:=λi h h' st k=>st.mv λo e=>k it (by simp) o e
 item:=by
  intro X hP hw hK hc i pins s σ H E I hf st hg;subst hP hw hK;obtain⟨xs,x,hq,hl,hx⟩:=hg;obtain⟨its,rv,p,hz⟩:=I.tuple hq;have hlt:i<xs.length:=by
   have:=jK.mp hx;obtain⟨h1,_⟩:=this
   rwa [DG]at h1
  rw[DC hlt]at hx;obtain⟨u,hu,ru⟩:=rv.get hx;obtain⟨f0,f1,f2,f3,f4,f5⟩:=hf it (by simp);have ei:(n:Int)-1- (i:Int)=((xs.length-1-i:Nat):Int):=by lia
  rw[ei]at st;have hsz:its.toArray.size=xs.length:=by rw[eY];exact rv.length.symm
  refine Yv st (show IsTup s.heap a its.toArray from p) (x:=u) (by simpa using hu) (by rw[hsz,hl];exact hn) λh' tk st' sb=>?_;have I1:Inv X pins σ H {s with heap:=h',toks:=tk}:=I.turned (t':=tk) (λb o hb e=>(sb.2 b hb).trans e) f0 f1 f3 f4 f5;obtain⟨o,e,c,d⟩:=id st';have ej:((xs.length-1-i:Nat):Int)-1=(n:Int)-1- ((i+1:Nat):Int):=by lia
  rw[ej]at st';exact⟨u,rfl,jU (s:={s with heap:=h',toks:=tk}) e c d (by decide) ⟨x,H,I1,ru,⟨rfl,λys hy=>by rw[I.fC hy hq,DC hlt];exact hx⟩,st',λb hb=>(hf b hb).1⟩⟩
 done:=by intro X hP hw hK hc i pins s σ H E I hf st hg;subst hP hw hK;have hg:n<=i:=hg;obtain⟨f0,f1,f2,f3,f4,f5⟩:=hf it (by simp);exact Yw (I.ok.hd hc) st (by lia) λh' eb=>⟨rfl,I.turned (t':=s.toks) (λb o hb e=>eb b o hb e) f0 f1 f3 f4 f5⟩
 self:=λ_ _ _ _ _ st h=>OB st h
end L2
namespace RF
open PySem PySem.Spec PyProof.Rows L2
section
variable{X:Cx}{e:ao}{fa:FE}{p pos:Pos}
theorem YA{tg l:ao}{ta:TA}(hg:Gl X "reversed")(hm:X.mg "reversed" = aC)(ha:PA X [l] ta)(hs:starEach [l] X.env=[(false,eval l X.env)]) :
 PI X tg (.Call (.Name "reversed" p) [l] [] pos) (λσ H R=>ta σ H λvs H1=>∃a xs,vs=[.ref a]/\bZ X.K H1 a xs/\R (Jf X.K a xs.length) H1):=by
 intro pins s σ H R I h;refine Call_ (vA I hg hm PyProof.Rows.boot_reversed (zq (bG (ha pos pins s σ H _ I h) λus s1 ⟨vs,H1,I1,r1,q1⟩=>?_) hs rfl));obtain⟨a,xs,e,hq,q⟩:=q1;subst e;obtain⟨u,rfl,ru⟩:=vals1 r1;cases ru;obtain⟨its,rv,pl,hz⟩:=I1.tuple hq;have pl:s1.heap.IsTuple a its.toArray:=pl;have hlen:its.toArray.size=xs.length:=by rw[eY];exact rv.length.symm
 have hfit:(xs.length:Int)<2 ^ 63:=by
  have:sizeLine<2 ^ 63:=by decide
  lia
 refine Yy pl (by rw[hlen];exact hfit) λtk=>OB (i:=(xs.length:Int)-1) ⟨_,gh _ rfl,rfl,by rw[<-hlen];rfl⟩ ?_;have hf:∀b,s1.heap.objs.size<=b->fT X pins H1 b:=λb hb=>I1.jT hb (I1.hok.fresh hb);refine⟨s1.heap.objs.size,_,_,_,H1,rfl,I1.kept (t':=tk) λb o e=>dH _ e,Yz a _ xs.length hfit,⟨_,gh _ rfl,rfl,by rw[<-hlen];show _=Data.fields #[.ref a,rawInt (_-1- ((0:Nat):Int))];rw[show(its.toArray.size:Int)-1- ((0:Nat):Int)=(its.toArray.size:Int)-1 from by lia];rfl⟩,λb hb=>hf b ?_,q⟩;have e':b=s1.heap.objs.size:=by simpa using hb
 rw[e'];exact bq _
theorem OC{ws:List W}{h:VH}{i:Nat}{o:Option W}(q:bw .rev (.tup ws) i h=aB o):o=ws.reverse[i]?:=by simp only[bw]at q;cases q;rfl
theorem aF.rev{K:aO}{m:Nat->ah}{n:Nat}{H:Hp}:∀{vs:List V} {ws:List W} {i:Nat} {w:W},aF K m n H vs ws->ws.reverse[i]?=aB w->∃v,vs.reverse[i]?=aB v/\aM K m n H v w:=by
 intro vs ws i w q e;have hlt:i<ws.length:=by
  obtain⟨h1,_⟩:=jK.mp e
  rwa [DG]at h1
 rw[DC hlt]at e;obtain⟨v,h1,h2⟩:=q.get e;exact⟨v,by rw[DC (by rw[q.length];exact hlt),q.length];exact h1,h2⟩
theorem YB{K:aO}{a:ah}{vs:List V}{ws:List W}:iL K (bw .rev (.tup ws)) (Jf K a vs.length) (λm n H=>bZ K H a vs/\aF K m n H vs ws):=by refine⟨λm n H m' n' H' hn hm kt kf ⟨q1,q2⟩=>⟨E4 kt kf q1,q2.mono hn hm kt kf⟩,λm h H r ⟨q1,q2⟩ i=>⟨λw e=>?_,λe=>?_⟩⟩;have e:=(OC e).symm;obtain⟨v,h1,h2⟩:=q2.rev e;refine⟨⟨vs,v,q1,rfl,h1⟩,λy H3 ⟨e3,y3⟩=>?_⟩;subst e3;have:=y3 vs q1;rw[h1]at this;cases this;exact⟨.refl,r,h2⟩;have e:=(OC e).symm;have:=ng.mp e;rw[DG]at this;show vs.length<=i;rw[q2.length];exact this
theorem YC{tg:ao}(ha:SE X e fa)(hs0:iy e)(hg:Gl X "reversed")(hm:X.mg "reversed" = aC):PI X tg (.Call (.Name "reversed" p) [e] [] pos) (eT X.K .rev fa):=λpins s σ H R I z9=>z9.el λρ h m x h' f r ee o en k=>by
 have hx:∃ws,x=.tup ws:=by simp only[bw]at en;split at en;exact⟨_,rfl⟩;cases en
 obtain⟨ws,rfl⟩:=hx;exact YA hg hm (NB ha hs0) (iK hs0) pins s σ H R I (.mk f r ee λv H' m' s' r' q=>by
  cases q with|tup sq rs=>exact⟨_,_,rfl,sq,k _ _ H' m' s' r' YB ⟨sq,rs⟩⟩)
end
theorem map_some{α β:Type}{o:Option α}{f:α->β}{b:β}(h:o.map f=aB b):∃a,o=aB a/\b=f a:=by
 cases o with|none=>cases h|some a=>cases h;exact⟨a,rfl,rfl⟩
structure oO(X:Cx)(C:CC)(T:List Str)(F:Nat->Option Fn)(k n:Nat):Prop where
 e:∀e c,cE X.K T n C e=aB c->SE X e (ev (run F k) c)/\iy e=true
 t:∀e c,cT X.K T n C e=aB c->ST X e (ev (run F k) c)
 w:∀e kd c tg,cW X.K T n C e=aB (kd,c)->Fd kd tg=true->PI X tg e (eT X.K kd (ev (run F k) c))/\∀x,foldedSetIterable e X.env x=pure x
section
variable{X:Cx}{C:CC}{T:List Str}{F:Nat->Option Fn}{k n:Nat}
theorem BY(O:gZ X C T F k)(ih:oO X C T F k n)(e:ao)(c:E)(h:cT X.K T (n+1) C e=aB c):ST X e (ev (run F k) c):=by unfold cT at h;split at h;split at h;split at h;rename_i hs;split at h;rename_i h1 h2 h3;cases h;exact V4 O.Ff h1 hs (ih.e _ _ h2).1 (ih.e _ _ h3).1;cases h;cases h;split at h;rename_i hs;split at h;rename_i h1 h2 h3 h4 h5;cases h;exact V6 O.Ff h1 h2 hs (ih.e _ _ h3).1 (ih.e _ _ h4).1 (ih.e _ _ h5).1;cases h;cases h;cases h;split at h;obtain⟨a,h1,rfl⟩:=map_some h;exact V7 (ih.t _ _ h1);cases h;split at h;exact((Fi ih.t).1 h).pt;exact((Fi ih.t).2 h).pt;obtain⟨a,h1,rfl⟩:=map_some h;exact Io (ih.e _ _ h1).1 λ_=>rfl;obtain⟨a,h1,rfl⟩:=map_some h;exact Io (ih.e _ _ h1).1 λ_=>rfl;obtain⟨a,h1,rfl⟩:=map_some h;exact Io (ih.e _ _ h1).1 λ_=>rfl;cases h
theorem BZ{e:ao}(h:∀a b c,e≠.Set a b c){env:Env}:∀x,foldedSetIterable e env x=pure x:=by intro x;cases e<;>first|rfl|exact absurd rfl (h _ _ _)
theorem B0(O:gZ X C T F k)(ih:oO X C T F k n)(e:ao)(kd:Kd)(c:E)(tg:ao)(h:cW X.K T (n+1) C e=aB (kd,c))(hw:Fd kd tg):PI X tg e (eT X.K kd (ev (run F k) c))/\∀x,foldedSetIterable e X.env x=pure x:=by
 unfold cW at h;split at h;rename_i f p args pos;refine⟨?_,λx=>rfl⟩;split at h;rename_i hf;have hf:f = "range":=by simpa using hf
 subst hf;split at h;rename_i ha;obtain⟨g1,g2⟩:=BV O ha;split at h;rename_i a;obtain⟨x,h1,h2⟩:=map_some h;cases h2;obtain⟨h3,h4⟩:=ih.e _ _ h1;exact WR (EV h3 Ig (iK h4)) h4 g1 g2;cases h;cases h;split at h;rename_i hf;have hf:f = "enumerate":=by simpa using hf
 subst hf;split at h;rename_i ha;obtain⟨g1,g2⟩:=BV O ha;split at h;rename_i a;obtain⟨x,h1,h2⟩:=map_some h;cases h2;obtain⟨h3,h4⟩:=ih.e _ _ h1;cases tg<;>first|exact WY h3 h4 g1 g2|cases hw
 cases h;cases h;split at h;rename_i hf;have hf:f = "reversed":=by simpa using hf
 subst hf;split at h;rename_i ha;obtain⟨g1,g2⟩:=BV O ha;split at h;rename_i a;obtain⟨x,h1,h2⟩:=map_some h;cases h2;obtain⟨h3,h4⟩:=ih.e _ _ h1;exact YC h3 h4 g1 g2;cases h;cases h;split at h;rename_i hf;have hf:f = "zip":=by simpa using hf
 subst hf;split at h;rename_i ha;obtain⟨g1,g2⟩:=BV O ha;split at h;rename_i a b;split at h;rename_i x y h1 h2;cases h;obtain⟨h3,h4⟩:=ih.e _ _ h1;obtain⟨h5,h6⟩:=ih.e _ _ h2;cases tg<;>first|exact W2 (EV h3 (EV h5 Ig (iK h6)) (iK h4)) h4 h6 g1 g2|cases hw
 cases h;cases h;cases h;obtain⟨x,h1,h2⟩:=map_some h;cases h2;exact Ir (ih.e _ _ h1).1;cases h;rename_i nm _;obtain⟨x,h1,h2⟩:=map_some h;by_cases hcn:Jc nm=true;simp only[hcn,b9]at h2;cases h2;exact⟨Ny (Yi (ih.e _ _ h1).1),λx=>rfl⟩;simp only[hcn,dF]at h2;cases h2;refine⟨?_,λx=>rfl⟩;split;exact Ny (ih.e _ _ h1).1;exact Ir (ih.e _ _ h1).1;rename_i hns hnm;obtain⟨x,h1,h2⟩:=map_some h;cases h2;exact⟨Ir (ih.e _ _ h1).1,BZ (by first|exact hns|(intro a b c z;exact hns a b c z))⟩
end
section
variable{X:Cx}{C:CC}{T:List Str}{F:Nat->Option Fn}{k n:Nat}
theorem YD(O:gZ X C T F k){x:Str}{p:Pos}{c:E}(h:cE X.K T (n+1) C (.Name x p)=aB c):SE X (.Name x p) (ev (run F k) c):=by simp only[cE]at h;split at h;rename_i hn;obtain⟨n1,n2,n3⟩:=yH hn;split at h;rename_i hv;obtain⟨i,h1,rfl⟩:=map_some h;exact VR (by rw[O.hN];exact I0 h1) (O.vis x hv) n1 n2;split at h;rename_i hg;split at h;rename_i v hv;obtain⟨w,h1,rfl⟩:=map_some h;obtain⟨y,h2,h3⟩:=Ol 8 v w h1;exact A3 (RO (O.gl x (by simpa using hg)) (O.BU x v hv) h2 n1) h3;cases h;cases h;cases h
theorem YE(O:gZ X C T F k)(ih:oO X C T F k n){f:Str}{p pos:Pos}{args:List ao}{c:E}(h:cE X.K T (n+1) C (.Call (.Name f p) args [] pos)=aB c):SE X (.Call (.Name f p) args [] pos) (ev (run F k) c):=by
 simp only[cE]at h;split at h;rename_i hn;rw[bM]at hn;have hg:=O.gl f (by simpa using hn.2);split at h;rename_i hm;have hm:=O.Jd f hm;split at h;rename_i hf;have hf:f = "isinstance":=by simpa using hf
 subst hf;split at h;rename_i a t pt;split at h;rename_i ty x h1 h2;split at h;rename_i hc;cases h;rw[bM]at hc;obtain⟨g1,g2⟩:=BV O hc.2;obtain⟨h3,h4⟩:=ih.e _ _ h2;obtain⟨n1,n2,n3⟩:=yH hc.1;exact Ww ty h3 h4 hg hm g1 g2 (Yo h1) n3 n1;cases h;cases h;cases h;split at h;rename_i b e es hb;obtain⟨a,h1,rfl⟩:=map_some h;obtain⟨h2,h3⟩:=jo ih.e h1;exact BW hb hg hm hn.1 O.calm h2 h3;cases h;rename_i v hv;split at h;rename_i i hi;obtain⟨fa,fd,ps,fn,q1,q2,q3,q4,q5,q6,q7⟩:=O.fns i f (I0 hi) (Yj hn.1);have q1:=N1 q1;split at h;rename_i B3;rw[bM]at B3;obtain⟨a,h1,rfl⟩:=map_some h;obtain⟨h2,h3⟩:=jo ih.e h1;have hl:∀ws h w h',run F k i ws h=.ok w h'->ws.length=ps.length:=λws h w h' e=>by rw[IK q5 e,q6]
 have hev:ev (run F k) (.call i (mV a))=jH (ev (run F k) a) (λws h=>run F k i (ws++[.aI]) h):=by
  funext ρ h;simp only[ev,Yl (Om h1)];show Res.bind (Res.bind (ev (run F k) a ρ h) _) _=Res.bind (ev (run F k) a ρ h) _;cases ev (run F k) a ρ h with|no=>rfl|ex _ _=>rfl|ok y h2=>cases y<;>rfl
 rw[hev];cases args with|nil=>cases B3.2|cons e es=>exact WM q2 O.room hg (O.BU f _ q1) q3 (q7 (Yk B3.1)) h2 h3 (yH hn.1).1 hl
 obtain⟨a,h1,rfl⟩:=map_some h;obtain⟨h2,h3⟩:=jo ih.e h1;have hl:∀ws h w h',run F k i ws h=.ok w h'->ws.length=ps.length:=λws h w h' e=>by rw[IK q5 e,q6]
 cases args with
 |nil=>
  simp only[cL]at h1;cases h1;exact WL q2 O.room hg (O.BU f _ q1) q3 q4 (yH hn.1).1 hl
 |cons e es=>exact WK q2 O.room hg (O.BU f _ q1) q3 q4 h2 h3 (yH hn.1).1 hl
 cases h;cases h;cases h
theorem YF(O:gZ X C T F k)(ih:oO X C T F k n){o:ao}{m:Str}{ap pos:Pos}{args:List ao}{c:E}(h:cE X.K T (n+1) C (.Call (.Attribute o m ap) args [] pos)=aB c):SE X (.Call (.Attribute o m ap) args [] pos) (ev (run F k) c):=by
 simp only[cE]at h;split at h;rename_i hn;rw[bM]at hn;split at h;rename_i x a hx;split at h;rename_i hm;have hm:m = "append":=by simpa using hm
 subst hm;obtain⟨y,h1,rfl⟩:=map_some h;obtain⟨h2,h3⟩:=ih.e _ _ h1;exact WA (ih.e _ _ hx).1 h2 hn.1 h3 hn.2;cases h;rename_i x a b hx;split at h;rename_i hm;have hm:m = "get":=by simpa using hm
 subst hm;split at h;rename_i y z h1 h2;cases h;obtain⟨h3,h4⟩:=ih.e _ _ h1;obtain⟨h5,h6⟩:=ih.e _ _ h2;exact WB O.u1 (ih.e _ _ hx).1 h3 h5 hn.1 h4 h6 hn.2;cases h;cases h;cases h;cases h
theorem YG{ow fr:List Str}{sc:ay}{ifs:List ao}{c:E}(O:∀D s₀ H₀ ex,oO (X.comp (ow++fr) sc D s₀ H₀ ex) (rN sc) T F k n)
 (h:(match ifs with|[]=>aB (E.cst (.bl true))|[c]=>cT X.K T n (rN sc) c|_=>aC)=aB c) (D:ah) (s₀:af) (H₀:Hp) (ex:List ah):qX (X.comp (ow++fr) sc D s₀ H₀ ex) ifs (gY X.K (ev (run F k) c)):=by
 split at h;cases h;exact λpins s σ H Q I z9=>z9.el λρ h m b h' f r e q=>by
  cases e;exact Uh pins s σ H Q I (q H m .refl r)
 exact Ui ((O D s₀ H₀ ex).t _ _ h);cases h
theorem OD(O:gZ X C T F k)(ih:oO X C T F k n)(yI:∀{sc:ay} {ix:List Nat},we C sc ix=true->∀D s₀ H₀ ex,oO (X.comp (ownOf sc++j9 sc) sc D s₀ H₀ ex) (rN sc) T F k n)
 {elt tg iter:ao} {ifs:List ao} {sc:ay} {pos:Pos} {c:E} (h:cE X.K T (n+1) C (.ListComp elt [⟨tg,iter,ifs,0⟩] sc pos)=aB c) :
 ∃kd a t ix cc ce,c=.lc kd a t (ownOf sc).length ix cc ce/\bW X (ownOf sc) (j9 sc) ix sc/\PI X tg iter (eT X.K kd (ev (run F k) a))/\(∀D s₀ H₀ ex,PG (X.comp (ownOf sc++j9 sc) sc D s₀ H₀ ex) tg (gy X.K t))/\
  (∀D s₀ H₀ ex,qX (X.comp (ownOf sc++j9 sc) sc D s₀ H₀ ex) ifs (gY X.K (ev (run F k) cc)))/\(∀D s₀ H₀ ex,PE (X.comp (ownOf sc++j9 sc) sc D s₀ H₀ ex) elt (iI X.K (ev (run F k) ce)))/\∀x,foldedSetIterable iter X.env x=pure x:=by
 simp only[cE]at h;split at h
 .rename_i ix hix
  split at h
  .rename_i hc
   split at h
   .rename_i kd a t cc ce h1 h2 h3 h4
    split at h
    case isFalse=>cases h
    rename_i hw;cases h;obtain⟨w1,w2⟩:=ih.w _ _ _ tg h1 hw;exact⟨kd,a,t,ix,cc,ce,rfl,(Ov O hc).1,w1,λD s₀ H₀ ex=>um (Je O hc D s₀ H₀ ex) h2,YG (yI hc) h3,λD s₀ H₀ ex=>((yI hc D s₀ H₀ ex).e _ _ h4).1,w2⟩
   cases h
  cases h
 cases h
theorem B4(O:gZ X C T F k)(ih:oO X C T F k n)(yI:∀{sc:ay} {ix:List Nat},we C sc ix=true->∀D s₀ H₀ ex,oO (X.comp (ownOf sc++j9 sc) sc D s₀ H₀ ex) (rN sc) T F k n)
 (e:ao) (c:E) (h:cE X.K T (n+1) C e=aB c):SE X e (ev (run F k) c)/\iy e=true:=by
 have h0:=h;unfold cE at h;split at h;exact⟨YD O h0,rfl⟩;refine⟨?_,rfl⟩;split at h;cases h;exact VS;cases h;exact A4;cases h;exact VT;cases h;exact VU;cases h;obtain⟨a,h1,rfl⟩:=map_some h;exact⟨VW (jo ih.e h1).1,rfl⟩;obtain⟨a,h1,rfl⟩:=map_some h;exact⟨VX (jo ih.e h1).1,rfl⟩;refine⟨?_,rfl⟩;rename_i ks vs pos;split at h;rename_i hc;simp only[bM]at hc;obtain⟨a,h1,rfl⟩:=map_some h;cases ks with
 |nil=>
  cases vs with|nil=>simp only[BS]at h1;cases h1;exact WJ|cons _ _=>cases h1
 |cons q ks=>exact WH O.u2 (Ou ih.e h1) hc.2 (zm hc.1.2) (by simp) (lu hc.1.1)
 cases h;refine⟨?_,rfl⟩;split at h;rename_i h1 h2 h3;cases h;exact A6 (A8 h1) (V0 _) (ih.e _ _ h2).1 (ih.e _ _ h3).1;cases h;split at h;obtain⟨a,h1,rfl⟩:=map_some h;exact⟨V8 (ih.e _ _ h1).1,rfl⟩;obtain⟨a,h1,rfl⟩:=map_some h;exact⟨Wd (ih.e _ _ h1).1,rfl⟩;cases h;split at h;exact⟨(lJ ih.e).1 h,rfl⟩;exact⟨(lJ ih.e).2 h,rfl⟩;split at h;refine⟨?_,rfl⟩;split at h;rename_i hs;split at h;rename_i h1 h2 h3;cases h;exact V3 O.Ff h1 hs (ih.e _ _ h2).1 (ih.e _ _ h3).1;cases h;cases h;refine⟨?_,rfl⟩;split at h;rename_i hs;split at h;rename_i h1 h2 h3 h4 h5;cases h;exact V5 O.Ff h1 h2 hs (ih.e _ _ h3).1 (ih.e _ _ h4).1 (ih.e _ _ h5).1;cases h;cases h;cases h;refine⟨?_,rfl⟩;split at h;rename_i h1 h2 h3;cases h;exact Wb (ih.t _ _ h1) (ih.e _ _ h2).1 (ih.e _ _ h3).1;cases h;split at h;split at h;refine⟨?_,rfl⟩;split at h;rename_i h1 h2 h3;cases h;exact Wk (ih.e _ _ h1).1 (uo ih.e h2) (uo ih.e h3);cases h;cases h;refine⟨?_,rfl⟩;split at h;rename_i hs;split at h;rename_i h1 h2;cases h;exact Wg O.u2 (ih.e _ _ h1).1 (ih.e _ _ h2).1 (Yp hs);cases h;cases h;split at h;split at h;exact⟨YE O ih h0,rfl⟩;exact⟨YF O ih h0,rfl⟩;cases h;cases h;split at h;refine⟨?_,rfl⟩;obtain⟨kd,a,t,ix,cc,ce,rfl,S,w1,w2,w3,w4,w5⟩:=OD O ih yI h0;exact BD S O.calm w1 w2 w3 w4 w5;cases h;cases h
end
theorem yJ{T:List Str}{F:Nat->Option Fn}{k:Nat}:∀(n:Nat) {X:Cx} {C:CC},gZ X C T F k->oO X C T F k n
 |0,_,_,_=>⟨(λe c h=>nomatch h),(λe c h=>nomatch h),(λe kd c tg h _=>nomatch h)⟩
 |n+1,X,C,O=>by
  have ih:=yJ n O;have yI:∀{sc:ay}{ix:List Nat},we C sc ix=true->∀D s₀ H₀ ex,oO (X.comp (ownOf sc++j9 sc) sc D s₀ H₀ ex) (rN sc) T F k n:=λhc D s₀ H₀ ex=>yJ n (Je O hc D s₀ H₀ ex);exact⟨B4 O ih yI,BY O ih,B0 O ih⟩
section
variable{X:Cx}{C:CC}{T:List Str}{F:Nat->Option Fn}{k d:Nat}
theorem wj{f:aq->Option S}{cl:Call}(ih:∀st c,f st=aB c->SS X st (exs cl c)):∀{sts:List aq} {c:S},oN f sts=aB c->rG X sts (exs cl c)
 |[],_,h=>by cases h;exact Xb
 |s::r,c,h=>by
  unfold oN at h;split at h;rename_i a b ha hb;cases h;exact Xf (ih s a ha) (wj ih hb);cases h
theorem YH(O:gZ X C T F k){x:Str}{p pos:Pos}{e:ao}{i:Nat}(hi:gC C (.Name x p)=aB i)(h:Jb e):SS X (.Assign [.Name x p] e pos) (exs (run F k) (.set i (.bi .AU .nil))):=by obtain⟨x',p',ex,h1,h2,h3⟩:=jn O hi;cases ex;have nd:X.N.Nodup:=O.hN▸O.nd;unfold Jb at h;split at h;exact IG nd h1 h2 h3 Yh (IF rfl);cases h
theorem YI{K:aO}{T:List Str}{n:Nat}{C:CC}{elt:ao}{gs:List Comprehension}{sc:ay}{lp:Pos}{c:E}(h:cE K T (n+1) C (.ListComp elt gs sc lp)=aB c):∃tg iter ifs,gs=[⟨tg,iter,ifs,0⟩]:=by
 match gs,h with|[],h=>cases(show(aC:Option E)=aB c from h)|[⟨tg,iter,ifs,0⟩],_=>exact⟨tg,iter,ifs,rfl⟩|[⟨_,_,_,.ofNat (k+1)⟩],h=>cases(show(aC:Option E)=aB c from h)|[⟨_,_,_,.negSucc k⟩],h=>cases(show(aC:Option E)=aB c from h)|⟨_,_,_,0⟩::_::_,h=>cases(show(aC:Option E)=aB c from h)|⟨_,_,_,.ofNat (k+1)⟩::_::_,h=>cases(show(aC:Option E)=aB c from h)|⟨_,_,_,.negSucc k⟩::_::_,h=>cases(show(aC:Option E)=aB c from h)
theorem YJ(O:gZ X C T F k){x:Str}{p pos:Pos}{e:ao}{i:Nat}{c:E}(hi:gC C (.Name x p)=aB i)(h:cE X.K T d C e=aB c):SS X (.Assign [.Name x p] e pos) (exs (run F k) (.set i c)):=by
 obtain⟨x',p',ex,h1,h2,h3⟩:=jn O hi;cases ex;have nd:X.N.Nodup:=O.hN▸O.nd;have Sd:=yJ (T:=T) (F:=F) (k:=k) d O;by_cases hc:E5 e=true;exact IG nd h1 h2 h3 (Sd.e _ _ h).1 (IF hc);cases d with
 |zero=>cases h
 |succ n=>
  cases e with
  |ListComp elt gs sc lp=>
   have sw:∃b:Bool,swapsWith (.ListComp elt gs sc lp) (aB (.Name x p)) pos.line X.env=pure b:=⟨_,rfl⟩
   obtain⟨b,hb⟩:=sw;cases b with
   |false=>exact IG nd h1 h2 h3 (Sd.e _ _ h).1 hb
   |true=>
    obtain⟨tg,iter,ifs,rfl⟩:=YI h;obtain⟨kd,a,t,ix,cc,ce,rfl,S,w1,w2,w3,w4,w5⟩:=OD O (yJ n O) (λhc D s₀ H₀ ex=>yJ n (Je O hc D s₀ H₀ ex)) h;exact Xk nd h1 h2 h3 S O.calm w1 w2 w3 w4 hb w5
  |SetComp _ _ _ _=>unfold cE at h;cases h
  |DictComp _ _ _ _ _=>unfold cE at h;cases h
  |_=>exact absurd rfl hc
theorem oQ(O:gZ X C T F k):∀(n:Nat) (st:aq) (c:S),cS X.K T d n C st=aB c->SS X st (exs (run F k) c)
 |0,_,_,h=>by cases h
 |n+1,st,c,h=>by
  have nd:X.N.Nodup:=O.hN▸O.nd;have Sd:=yJ (T:=T) (F:=F) (k:=k) d O;have ih:=oQ O n;have hp:PassesOwn (model X.prog X.w) X.A X.env X.xe:=by rw[O.xe];exact PassesOwn.never
  unfold cS at h;split at h;cases h;exact Xc;cases h;exact Xd;cases h;exact Xe;cases h;exact BC;split at h;cases h;exact Xj;obtain⟨a,h1,rfl⟩:=map_some h;exact Xi (Sd.e _ _ h1).1;split at h;rename_i hc;obtain⟨a,h1,rfl⟩:=map_some h;exact Xh (Sd.e _ _ h1).1 hc;cases h;split at h;split at h;split at h;rename_i i a h1 h2;cases h;split;rename_i hz;rw[bM]at hz;exact YH O h1 hz.2;exact YJ O h1 h2;cases h;split at h;rename_i ht;split at h;rename_i h1 h2;cases h;exact Xn O.calm nd (Fg O h1) (Sd.e _ _ h2).1 ht;cases h;cases h;split at h;rename_i hs;split at h;rename_i h1 h2 h3;cases h;exact Xs O.u2 (Sd.e _ _ h1).1 (Sd.e _ _ h2).1 (Sd.e _ _ h3).1 hs;cases h;cases h;cases h;cases h;split at h;split at h;rename_i h1 h2 h3;cases h;obtain⟨x',p',ex,a1,a2,a3⟩:=jn O h1;cases ex;exact Xw h2 nd a1 a2 a3 (Sd.e _ _ h3).1;cases h;cases h;split at h;rename_i h1 h2 h3;cases h;exact Xy (Sd.t _ _ h1) (wj ih h2) (wj ih h3);cases h
  .rename_i tg it b el pos
   split at h
   .split at h
    .rename_i h1 h2 h3
     split at h
     case isFalse=>cases h
     rename_i hw;cases h;obtain⟨w1,w2⟩:=Sd.w _ _ _ tg h1 hw;exact XC hp O.calm w1 (um O h2) (wj ih h3) w2
    cases h
   cases h
  split at h;split at h;rename_i h1 h2;cases h;exact XD hp (Sd.t _ _ h1) (wj ih h2);cases h;cases h;cases h
end
noncomputable def Jg:FuncBody->Option (List aq)|.stmts b=>aB b|_=>aC
theorem YK{d:Data}(h:Fc d):∃n,d=.seq #[.none] n:=by
 cases d with
 |seq xs n=>
  obtain⟨l⟩:=xs;unfold Fc at h;simp only[]at h;split at h;rename_i v;cases v<;>first|exact⟨n,rfl⟩|cases h
  cases h
 |_=>cases h
theorem YL{K:aO}{v:aa}(h:gB K v):∃t o n,v=.ref t/\K.lookup t=aB o/\o.data=.seq #[.none] n:=by
 cases v with
 |ref t=>
  have h:(match K.lookup t with|some o=>Fc o.data|none=>false)=true:=h;cases e:K.lookup t with
  |none=>rw[e]at h;cases h
  |some o=>
   rw[e]at h;obtain⟨n,q⟩:=YK h;exact⟨t,o,n,rfl,e,q⟩
 |_=>cases h
noncomputable def wk(ps:List Str)(sc:ay):List Str:=ps++(sc.names.filter λy=>(y.2 == .local||y.2 == .cell) && !(ps.contains y.1)).map (·.1)
noncomputable def Fj(N ps:List Str)(sc:ay):Bool:=
 decide (sc.kind=.function) && !sc.isCoroutine && !sc.isGenerator&&decide N.Nodup&&decide (N.take ps.length=ps)&&ps.all (λx=>decide (sc.names.lookup x=aB .local\/sc.names.lookup x=aB .cell))&&sc.names.all (λy=>decide (y.2≠.free))&&decide ps.Nodup
theorem YM{N ps:List Str}{sc:ay}(h:Fj N ps sc):dJ N ps sc/\ps.Nodup:=by unfold Fj at h;simp only[bM,gH,lq,Bool.not_eq_true']at h;obtain⟨⟨⟨⟨⟨⟨⟨h1,h2⟩,h3⟩,h4⟩,h5⟩,h6⟩,h7⟩,h8⟩:=h;exact⟨⟨h1,h2,h3,h4,h5,h6,h7⟩,h8⟩
noncomputable def jd(x:Str):Str:=x
noncomputable def cF(K:aO)(T:List Str)(d n:Nat)(x:Str):Option Fn:=match fnAt K x with
 |some (f,o,fd)=>(match v5 fd.params,Jg fd.body with
  |some args,aB body=>if fd.name==jd x&&fd.qualname==x&&Nat.beq fd.globals mainGlobals&&fd.closure.isEmpty&& (isNone fd.defaults||gB K fd.defaults && !args.isEmpty)&&Nat.beq fd.builtins builtinsNs&&PySem.W.codeIn K fd.code x&&PySem.W.keepIn K (.ref f) &&
   Fj (wk (args.map (·.arg)) fd.scope) (args.map (·.arg)) fd.scope then
   (oN (cS K T d n ⟨wk (args.map (·.arg)) fd.scope,fd.scope.names,true⟩) body).map λb=>⟨(args.map (·.arg)).length,(wk (args.map (·.arg)) fd.scope).length,b⟩
   else aC
  |_,_=>aC)
 |none=>aC
theorem YN{fd:au}{x:Str}{args:List Arg}{body:List aq}(c1:(fd.name==jd x))(c2:(fd.qualname==x))(c3:Nat.beq fd.globals mainGlobals)(c4:fd.closure.isEmpty)(c6:Nat.beq fd.builtins builtinsNs)(ha:v5 fd.params=aB args)(hb:Jg fd.body=aB body) :
 ∃dx,fd=PySem.W.fnOf (jd x) x ⟨[],args,aC,[],[],aC,dx⟩ body fd.scope fd.defaults fd.kwdefaults fd.doc fd.pyModule fd.annotations fd.code fd.closureTuple:=by
 obtain⟨nm,qn,pr,bd,sc,gl,cl,df,kd,dc,pm,an,cdv,ct,bu⟩:=fd;have e1:nm=jd x:=by simpa using c1
 have e2:qn=x:=by simpa using c2
 have e3:gl=mainGlobals:=zm c3;have e4:cl=[]:=by simpa using c4
 have e6:bu=builtinsNs:=zm c6;have e7:bd=.stmts body:=by
  cases bd with|stmts b'=>cases hb;rfl|expr _=>cases hb
 obtain⟨dx,e8⟩:∃dx,pr=⟨[],args,aC,[],[],aC,dx⟩:=by unfold v5 at ha;split at ha;cases ha;rename_i z;exact⟨_,z⟩;cases ha
 exact⟨dx,by rw[e1,e2,e3,e4,e6,e7,e8]⟩
theorem YO{K:aO}{x:Str}{fd:au}{args:List Arg}{body:List aq}{dx:List ao}{sc:ay}{df kd dc pm:aa}{an:Option ah}{cdv ct:aa}{b:Bool}(e:fd=PySem.W.fnOf (jd x) x ⟨[],args,aC,[],[],aC,dx⟩ body sc df kd dc pm an cdv ct)(nd:(args.map (·.arg)).Nodup)
 (hb:b=gB K df) (c5:(isNone df||gB K df && !args.isEmpty)):Binds K fd (args.map (·.arg)) []/\(b=true->Binds K fd (args.map (·.arg)) [.none])/\(b=false->∀us:List aa,us.length=(args.map (·.arg)).length->bindArgs fd ⟨us,[]⟩=pure ((args.map (·.arg)).zip us)):=by
 subst e hb;rw[xS,bM]at c5;rcases c5 with c5|⟨c5,c0⟩
 have e5:df=.none:=by cases df<;>first|rfl|cases c5
 subst e5;exact⟨.all λus hl=>NS hl nd,(λz=>nomatch z),λ_ us hl=>NS hl nd⟩;obtain⟨t,o,n,rfl,hk,hd⟩:=YL c5;rw[c5];obtain⟨qs,z,B5⟩:∃qs z,args.map (·.arg)=qs++[z]:=by rcases List.eq_nil_or_concat (args.map (·.arg))with q|⟨l,b,q⟩;rw[List.map_eq_nil_iff.mp q]at c0;cases c0;exact⟨l,b,by rw[q,List.concat_eq_append]⟩
 have Jh:=nd;rw[B5]at Jh;refine⟨λs us hK hl=>?_,λ_ s us hK hl=>?_,λz=>nomatch z⟩;rw[pT]at hl ⊢;rw[B5]at hl ⊢;exact XF B5 Jh (hK _ _ hk) hd hl;rw[B5]at hl ⊢;exact XG B5 Jh (hK _ _ hk) hd (by rw[fS,fS]at hl;simpa using hl)
theorem YQ{K:aO}{x:Str}{f:ah}{o:Obj}{fd:au}(h:fnAt K x=aB (f,o,fd)):gA K x=aB f/\∃oc od sl,K.lookup f=aB ⟨oc,od,.func fd,sl⟩:=by unfold fnAt at h;split at h;rename_i f' hn;split at h;rename_i o' ho;split at h;rename_i fd' hd;cases h;refine⟨hn,o.cls,o.dict,o.slots,?_⟩;rw[<-hd];exact ho;cases h;cases h;cases h
theorem YR{K:aO}{T:List Str}{d n:Nat}{x:Str}{fn:Fn}:∀(f:ah) (o:Obj) (fd:au) (args:List Arg) (body:List aq) (b:S),fnAt K x=aB (f,o,fd)->v5 fd.params=aB args->Jg fd.body=aB body->(fd.name==jd x&&fd.qualname==x&&Nat.beq fd.globals mainGlobals&&fd.closure.isEmpty&& (isNone fd.defaults||gB K fd.defaults && !args.isEmpty)&&Nat.beq fd.builtins builtinsNs&&PySem.W.codeIn K fd.code x&&PySem.W.keepIn K (.ref f) &&
 Fj (wk (args.map (·.arg)) fd.scope) (args.map (·.arg)) fd.scope)=true->oN (cS K T d n ⟨wk (args.map (·.arg)) fd.scope,fd.scope.names,true⟩) body=aB b->fn=⟨(args.map (·.arg)).length,(wk (args.map (·.arg)) fd.scope).length,b⟩->∃f fd st ps N,gA K x=aB f/\oG K (jd x) x st f fd/\dJ N ps (jC st)/\fn.n=N.length/\fn.ps=ps.length/\(Binds K fd ps []/\(gP K x=true->Binds K fd ps [.none])/\(gP K x=false->∀us:List aa,us.length=ps.length->bindArgs fd ⟨us,[]⟩=pure (ps.zip us)))/\
 oN (cS K T d n ⟨N,(jC st).names,true⟩) (zev st)=aB fn.body/\∃o' fd' args,fnAt K x=aB (f,o',fd')/\v5 fd'.params=aB args/\ps=args.map (·.arg):=by
 intro f o fd args body b hf ha hb hc h1 e;rw[bM,bM,bM,bM,bM,bM,bM,bM]at hc;obtain⟨⟨⟨⟨⟨⟨⟨⟨c1,c2⟩,c3⟩,c4⟩,c5⟩,c6⟩,c7⟩,c8⟩,c9⟩:=hc;obtain⟨S,nd⟩:=YM c9;obtain⟨hn,oc,od,sl,lk⟩:=YQ hf;obtain⟨dx,ef⟩:=YN c1 c2 c3 c4 c6 ha hb;have hh:gP K x=gB K fd.defaults:=by unfold gP;rw[hf]
 exact⟨f,fd,.FunctionDef (jd x) ⟨[],args,aC,[],[],aC,dx⟩ body [] aC [] fd.scope aC (jd x) ⟨0,0,0,0⟩,args.map (·.arg),wk (args.map (·.arg)) fd.scope,hn,⟨⟨oc,od,_,_,_,_,_,fd.code,_,sl,ef,lk,c7⟩,c8⟩,S,by rw[e],by rw[e],YO ef nd hh c5,by rw[e];exact h1,o,fd,args,hf,ha,rfl⟩
theorem oR{K:aO}{T:List Str}{d n:Nat}{x:Str}{fn:Fn}(h:cF K T d n x=aB fn):∃f fd st ps N,gA K x=aB f/\oG K (jd x) x st f fd/\dJ N ps (jC st)/\fn.n=N.length/\fn.ps=ps.length/\(Binds K fd ps []/\(gP K x=true->Binds K fd ps [.none])/\(gP K x=false->∀us:List aa,us.length=ps.length->bindArgs fd ⟨us,[]⟩=pure (ps.zip us)))/\
 oN (cS K T d n ⟨N,(jC st).names,true⟩) (zev st)=aB fn.body/\∃o' fd' args,fnAt K x=aB (f,o',fd')/\v5 fd'.params=aB args/\ps=args.map (·.arg):=by
 unfold cF at h;split at h;rename_i f o fd hf;split at h;rename_i args body ha hb;split at h;rename_i hc;obtain⟨b,h1,e⟩:=map_some h;exact YR f o fd args body b hf ha hb hc h1 e;cases h;cases h;cases h
theorem Fo{α β:Type}{f:α->Option β}:∀{l:List α} {r:List β},aW f l=aB r->∀(i:Nat) (a:α),l[i]?=aB a->∃b,r[i]?=aB b/\f a=aB b
 |[],_,_,i,a,e=>by simp at e
 |x::l,r,h,i,a,e=>by
  unfold aW at h;split at h;rename_i b hb;split at h;rename_i bs BR;cases h;cases i with
  |zero=>simp at e;subst e;exact⟨b,rfl,hb⟩
  |succ i=>
   obtain⟨c,h1,h2⟩:=Fo BR i a (by simpa using e);exact⟨c,by simpa using h1,h2⟩
  cases h;cases h
noncomputable def Ji(K:aO)(T:List Str)(d n:Nat)(x:Str):Option Fn:=if x==("" : Str)then aB ⟨0,0,.no⟩else cF K T d n x
theorem Jj{K:aO}{T:List Str}{d n:Nat}{x:Str}{fn:Fn}(h:Ji K T d n x=aB fn)(hx:x≠""):cF K T d n x=aB fn:=by unfold Ji at h;rw[if_neg (by simpa using hx)]at h;exact h
noncomputable def jq(K:aO)(T:List Str)(d n:Nat):Option (List Fn):=aW (Ji K T d n) T
theorem OE{P:ai}{w:aj}{K:aO}{mg:Str->Option aa}{base:az}{T:List Str}{Fs:List Fn}{k:Nat}(KX:K.In base)(G:base.Ns mainGlobals mg){x:Str}{st:aq}{f:ah}{N ps:List Str}(S:dJ N ps (jC st))
 (H0:∀(i:Nat)(x:Str),T[i]?=aB x->x≠""->∃f fd ps fn,gA K x=aB f/\fU P w K mg base lD k f fd ps (oA K ps.length (run (λi=>Fs[i]?) k i))/\PySem.W.keepIn K (.ref f)=true/\Binds K fd ps []/\Fs[i]?=aB fn/\fn.ps=ps.length/\(gP K x=true->Binds K fd ps [.none]))
 (cdv:aa) (A:ak) (outer:List Env) (s:af) (H:Hp) (E:XK) (hr:dB k (A.deeper (envOfC x (jC st) s.heap.objs.size f cdv))):gZ (jV lD P w K mg base N x (jC st) f cdv A outer s H E).yk ⟨N,(jC st).names,true⟩ T (λi=>Fs[i]?) k:=by
 refine⟨rfl,S.nd,λy hy=>?_,λy hy=>?_,λy hy=>hy,λy hy=>hy,rfl,hr,rfl,S.kind,λy v hv=>PySem.W.mg_of KX G hv,λy hv=>PySem.W.mg_none_of KX G hv,H0⟩;have hy:rL ((jC st).names.lookup y)=true:=hy;cases z:(jC st).names.lookup y with
 |none=>rw[z]at hy;cases hy
 |some kd=>cases kd<;>first|exact .inl z|exact .inr (.inl z)|exact .inr (.inr z)|(rw[z]at hy;cases hy)
 have hy:rM true ((jC st).names.lookup y)=true:=hy;cases z:(jC st).names.lookup y with
 |none=>rw[z]at hy;cases hy
 |some kd=>cases kd<;>first|exact⟨.inl z,.inl rfl⟩|exact⟨.inr z,.inl rfl⟩|(rw[z]at hy;cases hy)
theorem YS{P:ai}{w:aj}{K:aO}{mg:Str->Option aa}{base:az}{T:List Str}{d n:Nat}{Fs:List Fn}(hP:jq K T d n=aB Fs)(KX:K.In base)(G:base.Ns mainGlobals mg)(k:Nat):∀(j:Nat),j<=k->∀(i:Nat) (x:Str),T[i]?=aB x->x≠""->
 ∃f fd ps fn,gA K x=aB f/\fU P w K mg base lD j f fd ps (oA K ps.length (run (λi=>Fs[i]?) j i))/\PySem.W.keepIn K (.ref f)=true/\Binds K fd ps []/\Fs[i]?=aB fn/\fn.ps=ps.length/\(gP K x=true->Binds K fd ps [.none]):=by
 induction k with
 |zero=>
  intro j hj i x e hx;have:j=0:=Nat.le_zero.mp hj;subst this;obtain⟨fn,h1,h2⟩:=Fo hP i x e;obtain⟨f,fd,st,ps,N,a1,a2,a3,a4,a5,a6,a7,_⟩:=oR (Jj h2 hx);exact⟨f,fd,ps,fn,a1,NZ,a2.kp,a6.1,h1,a5,a6.2.1⟩
 |succ k ih=>
  intro j hj i x e hx;by_cases hjk:j<=k;exact ih j hjk i x e hx;have:j=k+1:=by lia
  subst this;obtain⟨fn,h1,h2⟩:=Fo hP i x e;obtain⟨f,fd,st,ps,N,a1,a2,a3,a4,a5,a6,a7,_⟩:=oR (Jj h2 hx);exact⟨f,fd,ps,fn,a1,NY (F:=λi=>Fs[i]?) h1 a2 a3 a4 a5 λcdv A outer s H E hr=>wj (oQ (OE KX G a3 (λj y hj hy=>ih k (bq _) j y hj hy) cdv A outer s H E hr) n) a7,a2.kp,a6.1,h1,a5,a6.2.1⟩
noncomputable def yK:Res W->Bool|.ok (.bl true) _=>true|_=>false
noncomputable def says(K:aO)(T:List Str)(d n k i:Nat)(ns:List Int):Bool:=match jq K T d n with|some Fs=>yK (run (λi=>Fs[i]?) k i [.fz (ns.map .int)] ⟨0,0,[]⟩)|none=>false
theorem YT{r:Res W}(h:yK r):∃h',r=.ok (.bl true) h':=by
 cases r with
 |no=>cases h
 |ex _ _=>cases h
 |ok w h'=>cases w<;>first|(rename_i b;cases b<;>first|exact⟨h',rfl⟩|cases h)|cases h
theorem OF{K:aO}{m:Nat->ah}{n:Nat}{H:Hp}:∀(ns:List Int),aF K m n H (ns.map V.int) (ns.map W.int)|[]=>.nil|i::r=>.cons (.int i) (OF r)
theorem OG{K:aO}{T:List Str}{d n k i:Nat}{ns:List Int}(h:says K T d n k i ns):∃Fs h',jq K T d n=aB Fs/\run (λi=>Fs[i]?) k i [.fz (ns.map .int)] ⟨0,0,[]⟩=.ok (.bl true) h':=by unfold says at h;split at h;rename_i Fs hF;obtain⟨h',e⟩:=YT h;exact⟨Fs,h',hF,e⟩;cases h
theorem YU{K:aO}{T:List Str}{d n k i:Nat}{ns:List Int}{Fs:List Fn}(hP:jq K T d n=aB Fs)(h:yK (run (λi=>Fs[i]?) k i [.fz (ns.map .int)] ⟨0,0,[]⟩)):says K T d n k i ns=true:=by unfold says;rw[hP];exact h
noncomputable def oS(K:aO)(x:Str):Bool:=match fnAt K x with
 |some (_,_,fd)=>(match v5 fd.params with
  |some [a]=>a.arg==("_law_script" : Str) && !(gB K fd.defaults)
  |_=>false)
 |none=>false
theorem YV{l:PySem.W.OpenLaw}{q:ai}{loose:List Str}{XP:(Str->Option aa)->az->Prop}{YP:aj->az->Prop}{dr:DefRec}{K:Params->aO}(T:List Str)(d n k i:Nat)(hn:l.most=aB 63)(hdf:dr.params.defaults=[])(hr:dB k callerA)
 (hY:∀(w:aj)(h:az),YP w h->(K w.params).In h) (hT:T[i]?=aB dr.name) (hne:dr.name≠"") (hS:∀(w:aj)(ns:List Int),ns.length<=63->says (K w.params) T d n k i ns) (hL:∀w:aj,oS (K w.params) dr.name) :
 PySem.W.WalkO q loose XP YP l.row.toRowW dr [] (λf vs=>PySem.call f vs):=by
 have any:∀w:aj,∃Fs,jq (K w.params) T d n=aB Fs:=λw=>let⟨Fs,_,h,_⟩:=OG (hS w [] (gX _));⟨Fs,h⟩;refine L2.T9 (n:=63) (k:=k) (x:="_law_script") (CX:=λ_=>lD) (sp:=λw=>oA (K w.params) 1 (run (λj=>(Classical.choose (any w))[j]?) k i)) hn (by decide) hdf hr hY ?_ ?_ λ_ _ _ _ _ z=>z;intro w mg fa h KX G hmg;have hP:=Classical.choose_spec (any w);obtain⟨fn',h1,h2⟩:=Fo hP i _ hT;obtain⟨f',fd',st,ps',N,a1,a2,a3,a4,a5,a6,a7,o',YW,args,a8,a9,Jk⟩:=oR (Jj h2 hne);have hps:ps'=[("_law_script" : Str)]:=by
  have hl:=hL w;unfold oS at hl;rw[a8]at hl;simp only[a9]at hl;cases args with
  |nil=>cases hl
  |cons z zs=>
   cases zs with
   |nil=>
    rw[bM]at hl;have hl:z.arg = "_law_script":=by simpa using hl.1
    rw[Jk,dz,hl];rfl
   |cons _ _=>cases hl
 have hnd:gP (K w.params) dr.name=false:=by have hl:=hL w;unfold oS at hl;rw[a8]at hl;unfold gP;rw[a8];simp only[a9]at hl;split at hl;rw[bM]at hl;simpa using hl.2;cases hl
 have e:=PySem.W.mg_of KX G (N1 a1);rw[hmg]at e;cases e;subst hps;refine⟨fd',λs u=>.of_eq (a6.2.2 hnd [u] rfl),λbase KB GB=>?_⟩;cases k with|zero=>exact NZ|succ k=>exact NY (F:=λj=>(Classical.choose (any w))[j]?) h1 a2 a3 a4 a5 λcdv A outer s H E hr=>wj (oQ (OE KB GB a3 (λj y hj hy=>YS hP KB GB k k (bq _) j y hj hy) cdv A outer s H E hr) n) a7
 intro w H a ns hl hO hQ;obtain⟨Fs,h',e1,e2⟩:=OG (hS w ns hl);have hP:=Classical.choose_spec (any w);rw[hP]at e1;cases e1;refine⟨rfl,⟨0,0,[]⟩,λ_=>0,_,_,h',⟨λi hi=>absurd hi (Nat.not_lt_zero _),λi j hi=>absurd hi (Nat.not_lt_zero _),rfl⟩,.cons (.fz ?_ (OF ns)) .nil,e2,λv H' m' _ _ q=>by cases q;rfl⟩;rcases hQ with(q|⟨o,q⟩)|q
 rcases hO a with z|⟨o,xs,z⟩;rw[z]at q;cases q;rw[z]at q;cases q;exact .inl ⟨o,q⟩;exact .inr q
section
open E renaming var->v,cons->c,cst->k,nil->n,call->f,idx->x,cmp->p,bi->b,op->o,not->z,and->a,or->r,jb->t,nY->i,slc->l,lst->m,lc->u,neg->y,mt->w
open S renaming seq->q,skip->s,ret->e,set->d,lH->g,expr->h,put->j
noncomputable def Fp:Fn:=⟨1,1,(q (e (a (i .int (v 0)) (z (i .bool (v 0))))) s)⟩
noncomputable def Jl:Fn:=⟨3,3,(q (e (a (f 0 (c (v 0) n)) (.vP .le .le (v 1) (v 0) (v 2)))) s)⟩
noncomputable def Fq:Fn:=⟨2,2,(q (.ite (p .eq (b .len (c (v 0) n)) (k (.int 0))) (q (e (o .add (o .mul (k (.int 7)) (v 1)) (k (.int 3)))) s) s) (q (e (b .abs (c (x (v 0) (o .mod (v 1) (b .len (c (v 0) n)))) n))) s))⟩
noncomputable def ur:E:=(p .ge (b .abs (c (v 0) n)) (o .pow (k (.int 10)) (k (.int 18))))
noncomputable def uu:E:=(b .abs (c (v 0) n))
noncomputable def B6:Fn:=⟨1,1,(q (e (m (c (v 0) (c (u .seq (v 0) (.one 0) 1 [] ur uu) (c (k (.int 0)) (c (k (.int 0)) n)))))) s)⟩
noncomputable def Jm:Fn:=⟨3,4,(q (d 3 (o .mod (o .pow (o .add (o .mul (o .add (o .mod (f 2 (c (v 0) (c (v 1) n))) (k (.int 1000003))) (k (.int 5))) (o .add (v 1) (k (.int 2)))) (o .mul (k (.int 7919)) (v 1))) (k (.int 5))) (k (.int 2147483647)))) (q (e (o .mod (o .fdiv (v 3) (k (.int 13))) (v 2))) s))⟩
noncomputable def B7:E:=(p .lt (x (v 0) (k (.int 2))) (b .len (c (x (v 0) (k (.int 1))) n)))
noncomputable def wm:S:=(q (d 2 (x (x (v 0) (k (.int 1))) (x (v 0) (k (.int 2))))) (q (.ite (p .gt (v 2) (k (.int 0))) (q (j (x (v 0) (k (.int 1))) (x (v 0) (k (.int 2))) (o .fdiv (v 2) (v 1))) (q (e (o .mod (v 2) (v 1))) s)) s) (q (j (v 0) (k (.int 2)) (o .add (x (v 0) (k (.int 2))) (k (.int 1)))) s)))
noncomputable def rO:Fn:=⟨2,3,(q (.n9 B7 wm) (q (j (v 0) (k (.int 3)) (o .add (x (v 0) (k (.int 3))) (k (.int 1)))) (q (e (f 4 (c (x (v 0) (k (.int 0))) (c (x (v 0) (k (.int 3))) (c (v 1) n))))) s)))⟩
noncomputable def B8:Fn:=⟨3,3,(q (e (a (i .tuple (v 0)) (.vP .le .le (v 1) (b .len (c (v 0) n)) (v 2)))) s)⟩
noncomputable def Ft:S:=(q (.ite (z (t (f 1 (c (v 5) (c (v 3) (c (v 4) n)))))) (q (e (k (.bl false))) s) s) s)
noncomputable def B9:Fn:=⟨5,6,(q (.ite (z (t (f 6 (c (v 0) (c (v 1) (c (v 2) n)))))) (q (e (k (.bl false))) s) s) (q (.«for» .seq (v 0) (.one 5) Ft) (q (e (k (.bl true))) s)))⟩
noncomputable def Fv:S:=(q (.ite (z (t (f 11 (c (v 3) (c (v 2) n))))) (q (e (k (.bl false))) s) s) s)
noncomputable def Jo:Fn:=⟨3,4,(q (.ite (z (t (f 6 (c (v 0) (c (v 1) (c (v 1) n)))))) (q (e (k (.bl false))) s) s) (q (.«for» .seq (v 0) (.one 3) Fv) (q (e (k (.bl true))) s)))⟩
noncomputable def Fw:S:=(q (.ite (z (t (f 6 (c (v 2) (c (v 1) (c (v 1) n)))))) (q (e (k (.bl false))) s) s) s)
noncomputable def Jp:Fn:=⟨2,3,(q (.ite (z (t (f 6 (c (v 0) (c (k (.int 0)) (c (k (.int 60)) n)))))) (q (e (k (.bl false))) s) s) (q (.«for» .seq (v 0) (.one 2) Fw) (q (e (k (.bl true))) s)))⟩
noncomputable def wo:Fn:=⟨1,6,(q (.ite (z (t (f 6 (c (v 0) (c (k (.int 5)) (c (k (.int 5)) n)))))) (q (e (k (.bl false))) s) s) (q (g [1,2,3,4,5] (v 0)) (q (.ite (r (z (t (f 1 (c (v 1) (c (k (.int 1)) (c (k (.int 40)) n)))))) (z (t (f 1 (c (v 2) (c (k (.int 0)) (c (k (.int 8)) n))))))) (q (e (k (.bl false))) s) s) (q (.ite (z (t (f 7 (c (v 4) (c (k (.int 1)) (c (k (.int 4)) (c (k (.int 0)) (c (o .sub (v 1) (k (.int 1))) n)))))))) (q (e (k (.bl false))) s) s) (q (e (a (f 9 (c (v 3) (c (v 1) n))) (f 8 (c (v 5) (c (v 1) (c (b .len (c (v 4) n)) n)))))) s)))))⟩
noncomputable def rP:Fn:=⟨2,4,(q (.ite (z (t (f 6 (c (v 0) (c (k (.int 2)) (c (k (.int 2)) n)))))) (q (e (k (.bl false))) s) s) (q (g [2,3] (v 0)) (q (e (a (f 1 (c (v 2) (c (k (.int 0)) (c (k (.int 99)) n)))) (f 12 (c (v 3) (c (v 1) n))))) s)))⟩
noncomputable def wu:Fn:=⟨2,2,(q (e (r (p .ja (v 0) (k .aI)) (f 1 (c (v 0) (c (k (.int 0)) (c (o .sub (v 1) (k (.int 1))) n)))))) s)⟩
noncomputable def rQ:Fn:=⟨2,4,(q (.ite (z (t (f 6 (c (v 0) (c (k (.int 2)) (c (k (.int 2)) n)))))) (q (e (k (.bl false))) s) s) (q (g [2,3] (v 0)) (q (e (a (f 1 (c (v 2) (c (k (.int 0)) (c (o .sub (v 1) (k (.int 1))) n)))) (f 1 (c (v 3) (c (k (.int 0)) (c (k (.int 1)) n)))))) s)))⟩
noncomputable def Fx:S:=(q (.ite (z (t (f 15 (c (v 7) (c (v 6) (c (v 1) (c (v 2) n))))))) (q .no s) s) s)
noncomputable def Fy:S:=(q (.«for» .p5 (v 5) (.many [6,7]) Fx) s)
noncomputable def wz:Fn:=⟨1,8,(q (.ite (z (t (f 10 (c (v 0) n)))) (q .no s) s) (q (g [1,2,3] (l (v 0) false (k .aI) true (k (.int 3)))) (q (.«for» .p5 (v 3) (.many [4,5]) Fy) s)))⟩
noncomputable def wA:Fn:=⟨4,4,(q (.ite (r (p .eq (v 0) (k (.str (bH "x")))) (t (f 13 (c (v 0) (c (v 3) n))))) (q (e (.vP .lt .lt (k (.int 0)) (v 1) (o .sub (v 2) (k (.int 1))))) s) s) (q (.ite (p .eq (v 0) (k (.str (bH "<")))) (q (e (p .gt (v 1) (k (.int 0)))) s) s) (q (.ite (p .eq (v 0) (k (.str (bH ">")))) (q (e (p .lt (v 1) (o .sub (v 2) (k (.int 1))))) s) s) (q (e (r (p .eq (v 0) (k (.str (bH ".")))) (p .eq (v 0) (k (.str (bH "s")))))) s))))⟩
noncomputable def oU:Fn:=⟨4,6,(q (d 4 (f 5 (c (v 0) (c (k (.int 10)) n)))) (q (d 5 (x (m (c (k (.str (bH "."))) (c (k (.str (bH "<"))) (c (k (.str (bH ">"))) (c (k (.str (bH "x"))) (c (k (.str (bH "."))) (c (k (.str (bH "."))) n))))))) (b .min (c (v 4) (c (k (.int 5)) n))))) (q (.ite (a (p .gt (v 4) (k (.int 4))) (p .gt (v 3) (k (.int 0)))) (q (d 5 (.tup (c (f 5 (c (v 0) (c (v 3) n))) (c (f 5 (c (v 0) (c (k (.int 2)) n))) n)))) s) s) (q (.ite (a (p .eq (v 4) (k (.int 4))) (p .eq (f 5 (c (v 0) (c (k (.int 4)) n))) (k (.int 0)))) (q (e (k (.str (bH "s")))) s) s) (q (.ite (r (a (p .eq (v 1) (k (.int 0))) (p .rD (v 5) (.tup (c (k (.str (bH "."))) (c (k (.str (bH ">"))) n))))) (a (p .eq (v 1) (o .sub (v 2) (k (.int 1)))) (p .rD (v 5) (.tup (c (k (.str (bH "."))) (c (k (.str (bH "<"))) n)))))) (q (e (x (m (c (k (.str (bH ">"))) (c (k (.str (bH "<"))) (c (k (.str (bH "."))) n)))) (b .min (c (o .add (b .int (c (p .gt (v 1) (k (.int 0))) n)) (o .mul (k (.int 2)) (b .int (c (p .eq (v 2) (k (.int 1))) n)))) (c (k (.int 2)) n))))) s) s) (q (e (v 5)) s))))))⟩
noncomputable def wB:Fn:=⟨2,4,(q (d 2 (x (m (c (f 5 (c (v 0) (c (k (.int 3)) n))) (c (f 5 (c (v 0) (c (k (.int 100)) n))) n))) (b .int (c (p .eq (f 5 (c (v 0) (c (k (.int 4)) n))) (k (.int 0))) n)))) (q (d 3 (f 5 (c (v 0) (c (v 1) n)))) (q (.ite (p .eq (f 5 (c (v 0) (c (k (.int 8)) n))) (k (.int 0))) (q (e (.tup (c (v 2) (c (k .aI) n)))) s) s) (q (e (.tup (c (v 2) (c (v 3) n)))) s))))⟩
noncomputable def FA:E:=(f 21 (c (v 1) (c (v 0) (c (v 3) (c (v 2) n)))))
noncomputable def rR:Fn:=⟨3,3,(q (e (b .tuple (c (u .fj (c (v 1) n) (.one 0) 1 [0,2,1] (k (.bl true)) FA) n))) s)⟩
noncomputable def OH:E:=(f 25 (c (v 1) (c (v 3) (c (v 2) n))))
noncomputable def OI:E:=(f 5 (c (v 1) (c (v 2) n)))
noncomputable def OJ:E:=(f 23 (c (v 1) (c (b .len (c (v 2) n)) n)))
noncomputable def wC:Fn:=⟨4,9,(q (d 4 (o .add (k (.int 1)) (f 5 (c (v 0) (c (v 1) n))))) (q (d 5 (f 5 (c (v 0) (c (o .add (v 3) (k (.int 1))) n)))) (q (d 6 (u .fj (c (f 5 (c (v 0) (c (o .add (v 2) (k (.int 1))) n))) n) (.one 0) 1 [0,5,4] (k (.bl true)) OH)) (q (d 7 (b .tuple (c (u .fj (c (o .add (k (.int 1)) (f 5 (c (v 0) (c (k (.int 4)) n)))) n) (.one 0) 1 [0,4] (k (.bl true)) OI) n))) (q (d 8 (b .tuple (c (u .fj (c (v 4) n) (.one 0) 1 [0,7] (k (.bl true)) OJ) n))) (q (e (.tup (c (v 4) (c (v 5) (c (b .tuple (c (v 6) n)) (c (v 7) (c (v 8) n))))))) s))))))⟩
noncomputable def wD:Fn:=⟨2,2,(q (e (f 7 (c (v 0) (c (v 1) (c (v 1) (c (k (.int 0)) (c (k (.int 1)) n))))))) s)⟩
noncomputable def FD:E:=(f 5 (c (v 1) (c (k (.int 2)) n)))
noncomputable def oV:Fn:=⟨2,2,(q (e (b .tuple (c (u .fj (c (v 1) n) (.one 0) 1 [0] (k (.bl true)) FD) n))) s)⟩
noncomputable def rS:Fn:=⟨2,4,(q (h (f 14 (c (v 0) n))) (q (.ite (z (t (f 6 (c (v 1) (c (k (.int 2)) (c (k (.int 2)) n)))))) (q (e (k (.bl false))) s) s) (q (g [2,3] (v 1)) (q (e (a (f 17 (c (v 2) (c (x (v 0) (k (.int 1))) n))) (f 12 (c (v 3) (c (b .len (c (x (v 0) (k (.int 3))) n)) n))))) s))))⟩
noncomputable def wF:Fn:=⟨2,2,(q (.ite (z (t (f 27 (c (v 0) (c (v 1) n))))) (q .no s) s) s)⟩
noncomputable def yL:S:=(q (d 8 (x (v 7) (x (v 4) (y (k (.int 1)))))) (q (.ite (p .eq (v 8) (k (.str (bH "s")))) (q (e (m (c (b .tuple (c (v 4) n)) (c (b .tuple (c (v 5) n)) (c (b .tuple (c (v 1) n)) (c (k (.bl true)) n)))))) s) s) (q (.ite (r (p .eq (v 8) (k (.str (bH ".")))) (r (p .eq (v 8) (k (.str (bH "<")))) (p .eq (v 8) (k (.str (bH ">")))))) (q (d 6 (x (.nt (c (k (.str (bH "."))) (c (k (.int 0)) (c (k (.str (bH "<"))) (c (y (k (.int 1))) (c (k (.str (bH ">"))) (c (k (.int 1)) n))))))) (v 8))) s) (q (.ite (p .ne (v 8) (k (.str (bH "x")))) (q (d 6 (o .sub (k (.int 1)) (o .mul (k (.int 2)) (b .int (c (p .eq (x (v 1) (x (v 8) (k (.int 0)))) (x (v 8) (k (.int 1)))) n))))) (q (h (w .append (v 5) (c (x (v 8) (k (.int 0))) n))) (q (j (v 1) (x (v 8) (k (.int 0))) (o .sub (k (.int 1)) (x (v 1) (x (v 8) (k (.int 0)))))) s))) s) s)) (q (h (w .append (v 4) (c (o .add (x (v 4) (y (k (.int 1)))) (v 6)) n))) s))))
noncomputable def oW:Fn:=⟨3,9,(q (d 3 (x (x (v 0) (k (.int 3))) (v 2))) (q (d 4 (m (c (v 3) n))) (q (d 5 (m n)) (q (d 1 (b .list (c (v 1) n))) (q (d 6 (k (.int 0))) (q (.«for» .seq (x (v 0) (k (.int 2))) (.one 7) yL) (q (e (m (c (b .tuple (c (v 4) n)) (c (b .tuple (c (v 5) n)) (c (b .tuple (c (v 1) n)) (c (k (.bl false)) n)))))) s)))))))⟩
noncomputable def wG:Fn:=⟨2,2,(q (e (a (i .int (v 0)) (a (z (i .bool (v 0))) (p .eq (v 0) (v 1))))) s)⟩
noncomputable def Jq:E:=(f 59 (c (v 0) (c (v 1) n)))
noncomputable def mW:Fn:=⟨2,2,(q (.ite (t (i .tuple (v 1))) (q (.ite (z (t (f 6 (c (v 0) (c (b .len (c (v 1) n)) (c (b .len (c (v 1) n)) n)))))) (q (e (k (.bl false))) s) s) (q (e (b .all (c (u .zip (c (v 0) (c (v 1) n)) (.many [0,1]) 2 [] (k (.bl true)) Jq) n))) s)) s) (q (e (a (z (i .bool (v 0))) (p .eq (v 0) (v 1)))) s))⟩
noncomputable def Jr:E:=(f 92 (c (v 0) (c (v 1) n)))
noncomputable def mX:Fn:=⟨2,2,(q (.ite (t (i .tuple (v 1))) (q (.ite (r (z (t (i .tuple (v 0)))) (p .ne (b .len (c (v 0) n)) (b .len (c (v 1) n)))) (q (e (k (.bl false))) s) s) (q (e (b .all (c (u .zip (c (v 0) (c (v 1) n)) (.many [0,1]) 2 [] (k (.bl true)) Jr) n))) s)) s) (q (.ite (p .ja (v 1) (k .aI)) (q (e (p .ja (v 0) (k .aI))) s) s) (q (e (f 39 (c (v 0) (c (v 1) n)))) s)))⟩
noncomputable def wH:Fn:=⟨2,4,(q (d 2 (f 20 (c (v 0) (c (x (v 1) (k (.int 1))) n)))) (q (d 3 (f 5 (c (v 0) (c (b .len (c (x (v 1) (k (.int 3))) n)) n)))) (q (.ite (p .eq (f 5 (c (v 0) (c (k (.int 12)) n))) (k (.int 7))) (q (e (.tup (c (v 2) (c (k .aI) n)))) s) s) (q (e (.tup (c (v 2) (c (v 3) n)))) s))))⟩
noncomputable def wI:Fn:=⟨1,2,(q (d 1 (f 5 (c (v 0) (c (k (.int 8)) n)))) (q (.ite (p .eq (v 1) (k (.int 0))) (q (e (f 26 (c (v 0) (c (k (.int 40)) (c (k (.int 60)) (c (k (.int 8)) n)))))) s) s) (q (.ite (p .eq (v 1) (k (.int 1))) (q (e (f 26 (c (v 0) (c (k (.int 6)) (c (k (.int 12)) (c (k (.int 6)) n)))))) s) s) (q (e (f 26 (c (v 0) (c (k (.int 9)) (c (k (.int 8)) (c (k (.int 4)) n)))))) s))))⟩
noncomputable def rT:E:=(p .gK (x (x (v 2) (y (k (.int 1)))) (k (.int 1))) (k .aI))
noncomputable def mY:S:=(q (g [5,6] (f 117 (c (v 0) (c (x (v 2) (y (k (.int 1)))) n)))) (q (h (w .append (v 4) (c (v 5) n))) (q (.ite (p .mK (v 6) (v 3)) (q (e (m (c (v 2) (c (v 4) (c (x (v 3) (v 6)) n))))) s) s) (q (j (v 3) (v 6) (b .len (c (v 2) n))) (q (h (w .append (v 2) (c (v 6) n))) s)))))
noncomputable def lK:Fn:=⟨2,7,(q (d 2 (m (c (v 1) n))) (q (d 3 (.nt (c (v 1) (c (k (.int 0)) n)))) (q (d 4 (m n)) (q (.n9 rT mY) (q (e (m (c (v 2) (c (v 4) (c (k .aI) n))))) s)))))⟩
noncomputable def lM:Fn:=⟨2,8,(q (g [2,3,4,5] (f 38 (c (v 0) (c (x (v 1) (k (.int 0))) (c (x (v 1) (k (.int 1))) n))))) (q (.ite (t (v 5)) (q (e (.tup (c (k .aI) (c (.tup (c (v 4) (c (k .aI) n))) n)))) s) s) (q (g [6,7] (x (x (v 0) (k (.int 4))) (x (v 2) (y (k (.int 1)))))) (q (e (.tup (c (v 6) (c (.tup (c (v 4) (c (v 7) n))) n)))) s))))⟩
noncomputable def jr:Fn:=⟨1,3,(q (d 1 (f 99 (c (v 0) n))) (q (d 2 (f 93 (c (v 0) (c (v 1) n)))) (q (.ite (p .gt (o .mul (b .len (c (x (f 112 (c (v 1) (c (v 2) n))) (k (.int 0))) n)) (b .len (c (x (v 1) (k (.int 2))) n))) (k (.int 6000))) (q (d 1 (f 26 (c (v 0) (c (k (.int 9)) (c (k (.int 8)) (c (k (.int 4)) n)))))) (q (d 2 (f 93 (c (v 0) (c (v 1) n)))) s)) s) (q (e (m (c (v 1) (c (v 2) n)))) s))))⟩
noncomputable def eL:Fn:=⟨4,7,(q (.ite (t (i .tuple (v 0))) (q (g [4,5] (v 0)) (q (d 6 (x (v 2) (v 4))) (q (.ite (p .ne (v 4) (v 3)) (q (j (v 2) (v 4) (o .sub (k (.int 1)) (v 6))) s) s) (q (e (.ite (p .eq (v 6) (v 5)) (k (.int (-1))) (k (.int 1)))) s)))) s) (q (.ite (p .eq (v 0) (k (.str (bH "s")))) (q (e (k .aI)) s) s) (q (.ite (p .eq (v 0) (k (.str (bH "x")))) (q (e (v 1)) s) s) (q (.ite (p .eq (v 0) (k (.str (bH ".")))) (q (e (k (.int 0))) s) s) (q (e (.ite (p .eq (v 0) (k (.str (bH "<")))) (k (.int (-1))) (k (.int 1)))) s)))))⟩
noncomputable def Ca:S:=(q (d 10 (x (v 9) (v 4))) (q (d 8 (f 173 (c (v 10) (c (v 8) (c (v 7) (c (v 3) n)))))) (q (.ite (p .ja (v 8) (k .aI)) (q .brk s) s) (q (.ite (a (t (i .tuple (v 10))) (p .ne (x (v 10) (k (.int 0))) (v 3))) (q (h (w .append (v 6) (c (x (v 10) (k (.int 0))) n))) s) s) (q (.aug 4 .add (v 8)) (q (h (w .append (v 5) (c (v 4) n))) s))))))
noncomputable def kc:Fn:=⟨4,11,(q (d 4 (x (x (v 0) (k (.int 3))) (v 2))) (q (d 5 (m (c (v 4) n))) (q (d 6 (m n)) (q (d 7 (b .list (c (v 1) n))) (q (d 8 (k (.int 0))) (q (.«for» .seq (x (v 0) (k (.int 2))) (.one 9) Ca) (q (e (.tup (c (b .tuple (c (v 5) n)) (c (b .tuple (c (v 6) n)) (c (b .tuple (c (v 7) n)) n))))) s)))))))⟩
noncomputable def uv:Fn:=⟨4,8,(q (g [4,5,6] (f 174 (c (v 0) (c (v 1) (c (v 2) (c (v 3) n)))))) (q (d 7 (.ite (p .gt (b .len (c (v 4) n)) (b .len (c (x (v 0) (k (.int 2))) n))) (x (v 4) (y (k (.int 1)))) (k .aI))) (q (e (.tup (c (v 7) (c (v 6) n)))) s)))⟩
noncomputable def lN:Fn:=⟨4,7,(q (g [4,5] (f 175 (c (v 0) (c (v 1) (c (v 2) (c (v 3) n)))))) (q (d 6 (.ite (p .ja (v 4) (k .aI)) (k (.tup [.aI,.aI])) (x (x (v 0) (k (.int 4))) (v 4)))) (q (e (.tup (c (v 6) (c (v 5) n)))) s)))⟩
noncomputable def lO:Fn:=⟨2,6,(q (g [2,3] (v 1)) (q (.ite (p .ja (v 3) (k .aI)) (q (e (k .aI)) s) s) (q (g [4,5] (f 176 (c (v 0) (c (v 2) (c (v 3) (c (k .aI) n)))))) (q (e (.tup (c (v 5) (c (x (v 4) (k (.int 1))) n)))) s))))⟩
noncomputable def wJ:E:=(a (p .gK (v 3) (k .aI)) (p .rD (v 3) (v 2)))
noncomputable def yM:S:=(q (j (v 2) (v 3) (b .len (c (v 2) n))) (q (d 3 (f 182 (c (v 0) (c (v 3) n)))) s))
noncomputable def lP:Fn:=⟨2,5,(q (h (f 29 (c (v 0) (c (v 1) n)))) (q (d 2 (.nt n)) (q (d 3 (v 1)) (q (.n9 wJ yM) (q (d 4 (.ite (p .ja (v 3) (k .aI)) (k .aI) (x (v 2) (v 3)))) (q (e (.tup (c (b .tuple (c (v 2) n)) (c (v 4) n)))) s))))))⟩
noncomputable def Cb:S:=(q (.ite (r (p .ja (v 6) (k .aI)) (r (p .mK (v 6) (v 5)) (z (t (f 59 (c (v 7) (c (v 6) n))))))) (q (e (k (.bl false))) s) s) (q (j (v 5) (v 6) (b .len (c (v 5) n))) (q (d 6 (f 182 (c (v 0) (c (v 6) n)))) s)))
noncomputable def lQ:Fn:=⟨3,8,(q (h (f 29 (c (v 0) (c (v 1) n)))) (q (.ite (r (z (t (f 6 (c (v 2) (c (k (.int 2)) (c (k (.int 2)) n)))))) (z (t (i .tuple (x (v 2) (k (.int 0))))))) (q (e (k (.bl false))) s) s) (q (g [3,4] (v 2)) (q (d 5 (.nt n)) (q (d 6 (v 1)) (q (.«for» .seq (v 3) (.one 7) Cb) (q (.ite (p .ja (v 6) (k .aI)) (q (e (p .ja (v 4) (k .aI))) s) s) (q (e (a (p .mK (v 6) (v 5)) (f 59 (c (v 4) (c (x (v 5) (v 6)) n))))) s))))))))⟩
noncomputable abbrev rV:E:=.nt (c (k (.str (bH "."))) (c (k (.int 0)) (c (k (.str (bH "<"))) (c (y (k (.int 1))) (c (k (.str (bH ">"))) (c (k (.int 1)) n))))))
noncomputable abbrev sE:E:=k (.str (bH "s"))
noncomputable def kT:S:=(.ite (r (p .eq (v 8) (k (.str (bH ".")))) (r (p .eq (v 8) (k (.str (bH "<")))) (p .eq (v 8) (k (.str (bH ">")))))) (q (d 6 (x rV (v 8))) s) (q (.ite (p .ne (v 8) (k (.str (bH "x")))) (q (d 6 (o .sub (k (.int 1)) (o .mul (k (.int 2)) (b .int (c (p .eq (x (v 1) (x (v 8) (k (.int 0)))) (x (v 8) (k (.int 1)))) n))))) (q (h (w .append (v 5) (c (x (v 8) (k (.int 0))) n))) (q (j (v 1) (x (v 8) (k (.int 0))) (o .sub (k (.int 1)) (x (v 1) (x (v 8) (k (.int 0)))))) s))) s) s))
noncomputable def rW:Fn:=⟨1,1,(q (e (f 1 (c (v 0) (c (k (.int 0)) (c (k (.int 100000000000000000000000000000000000000000000000000)) n))))) s)⟩
noncomputable def oX:Fn:=⟨3,6,(q (.ite (r (p .ja (v 1) (k .aI)) (p .lt (v 2) (v 0))) (q (d 3 (b .min (c (v 2) (c (o .sub (v 0) (k (.int 1))) n)))) (q (e (.tup (c (o .add (o .mul (m (c (k (.int 1)) n)) (v 3)) (o .mul (m (c (k (.int 0)) n)) (o .sub (v 0) (v 3)))) (c (v 3) n)))) s)) s) (q (g [4,5] (b .ES (c (o .sub (v 2) (v 1)) (c (o .sub (v 0) (v 1)) n)))) (q (e (.tup (c (o .add (o .add (o .mul (m (c (k (.int 1)) n)) (v 1)) (o .mul (m (c (o .add (v 4) (k (.int 1))) n)) (v 5))) (o .mul (m (c (v 4) n)) (o .sub (o .sub (v 0) (v 1)) (v 5)))) (c (o .add (v 1) (v 5)) n)))) s)))⟩
noncomputable def Js:S:=(q (.ite (p .gt (v 10) (k (.int 0))) (q (g [11,12] (f 176 (c (v 0) (c (v 8) (c (v 9) (c (k .aI) n)))))) (q (j (v 7) (x (v 11) (k (.int 0))) (o .add (w .get (v 7) (c (x (v 11) (k (.int 0))) (c (k (.int 0)) n))) (v 10))) s)) s) s)
noncomputable def Cc:E:=(p .gK (v 0) (k .aI))
noncomputable def Cd:E:=(.tup (c (v 0) (c (x (v 1) (v 0)) n)))
noncomputable def kg:Fn:=⟨3,14,(q (g [3,4] (v 1)) (q (g [5,6] (f 61 (c (b .len (c (v 3) n)) (c (v 4) (c (v 2) n))))) (q (d 7 (b .AU n)) (q (.«for» .zip (c (v 3) (c (v 5) n)) (.two [8,9] 10) Js) (q (d 13 (u .keys (b .bN (c (v 7) n)) (.one 0) 1 [7] Cc Cd)) (q (e (.tup (c (x (v 3) (v 6)) (c (b .tuple (c (b .AS (c (v 13) n)) n)) (c (b .sum (c (v 5) n)) n))))) s))))))⟩
noncomputable def lR:Fn:=⟨3,3,(q (h (f 29 (c (v 0) (c (v 1) n)))) (q (.ite (z (t (f 58 (c (v 2) n)))) (q .no s) s) (q (e (f 206 (c (v 0) (c (f 184 (c (v 0) (c (v 1) n))) (c (v 2) n))))) s)))⟩
noncomputable def FF:S:=(q (.ite (p .gK (v 4) (k .aI)) (q (j (v 1) (v 4) (o .add (w .get (v 1) (c (v 4) (c (k (.int 0)) n))) (v 3))) s) s) s)
noncomputable def Jt:S:=(q (.«for» .seq (v 2) (.one 4) FF) s)
noncomputable def Ce:E:=(p .gt (x (v 1) (v 0)) (k (.int 0)))
noncomputable def FG:E:=(.tup (c (v 0) (c (x (v 1) (v 0)) n)))
noncomputable def jt:Fn:=⟨1,5,(q (d 1 (b .AU n)) (q (.«for» .seq (v 0) (.many [2,3]) Jt) (q (e (b .tuple (c (u .seq (b .AS (c (b .list (c (v 1) n)) n)) (.one 0) 1 [1] Ce FG) n))) s)))⟩
noncomputable def kh:Fn:=⟨2,9,(q (g [2,3,4] (v 0)) (q (.ite (p .ja (v 4) (k .aI)) (q (d 5 (b .min (c (v 1) (c (b .len (c (v 3) n)) n)))) (q (e (.tup (c (x (v 2) (v 5)) (c (f 164 (c (m (c (.tup (c (l (v 3) false (k .aI) true (v 5)) (c (k (.int 1)) n))) n)) n)) (c (v 5) n))))) s)) s) (q (.ite (p .lt (v 1) (b .len (c (v 2) n))) (q (e (.tup (c (x (v 2) (v 1)) (c (f 164 (c (m (c (.tup (c (l (v 3) false (k .aI) true (v 1)) (c (k (.int 1)) n))) n)) n)) (c (v 1) n))))) s) s) (q (d 6 (o .fdiv (o .sub (v 1) (v 4)) (o .sub (b .len (c (v 3) n)) (v 4)))) (q (d 7 (o .mod (o .sub (v 1) (v 4)) (o .sub (b .len (c (v 3) n)) (v 4)))) (q (d 8 (m (c (.tup (c (l (v 3) false (k .aI) true (v 4)) (c (k (.int 1)) n))) (c (.tup (c (l (v 3) true (v 4) false (k .aI)) (c (v 6) n))) (c (.tup (c (l (v 3) true (v 4) true (o .add (v 4) (v 7))) (c (k (.int 1)) n))) n))))) (q (e (.tup (c (x (v 2) (o .add (v 4) (v 7))) (c (f 164 (c (v 8) n)) (c (v 1) n))))) s)))))))⟩
noncomputable def Cf:E:=(a (p .lt (b .len (c (v 3) n)) (v 2)) (p .gK (x (v 1) (k (.int 1))) (k .aI)))
noncomputable def FH:S:=(q (g [4,1] (f 117 (c (v 0) (c (v 1) n)))) (q (h (w .append (v 3) (c (v 4) n))) s))
noncomputable def FI:Fn:=⟨3,5,(q (d 3 (m n)) (q (.n9 Cf FH) (q (e (.tup (c (v 1) (c (f 164 (c (m (c (.tup (c (v 3) (c (k (.int 1)) n))) n)) n)) (c (b .len (c (v 3) n)) n))))) s)))⟩
noncomputable def lS:Fn:=⟨5,5,(q (.ite (r (z (t (f 204 (c (v 0) (c (v 1) (c (v 3) n)))))) (z (t (f 58 (c (v 2) n))))) (q (e (k (.bl false))) s) s) (q (e (f 59 (c (v 4) (c (f 206 (c (v 0) (c (v 3) (c (v 2) n)))) n)))) s))⟩
noncomputable def FJ:Fn:=⟨2,7,(q (g [2,3,4] (v 1)) (q (d 5 (m (c (k (.int 0)) (c (k (.int 1)) (c (o .add (k (.int 2)) (f 5 (c (v 0) (c (k (.int 50)) n)))) (c (b .len (c (v 3) n)) (c (o .add (b .len (c (v 3) n)) (k (.int 1))) (c (o .sub (o .pow (k (.int 10)) (k (.int 50))) (f 5 (c (v 0) (c (k (.int 3)) n)))) n)))))))) (q (.ite (p .gK (v 4) (k .aI)) (q (d 6 (o .sub (b .len (c (v 3) n)) (v 4))) (q (d 5 (o .add (v 5) (m (c (v 4) (c (o .add (v 4) (k (.int 1))) (c (o .add (v 4) (o .mul (v 6) (o .add (k (.int 1)) (f 5 (c (v 0) (c (k (.int 1000)) n)))))) (c (o .sub (o .add (b .len (c (v 3) n)) (v 6)) (k (.int 1))) n))))))) s)) s) (q (e (o .add (v 5) (m (c (o .add (o .mul (o .mul (f 5 (c (v 0) (c (o .pow (k (.int 10)) (k (.int 6))) n))) (f 5 (c (v 0) (c (o .pow (k (.int 10)) (k (.int 6))) n)))) (o .pow (k (.int 10)) (k (.int 6)))) (f 5 (c (v 0) (c (o .pow (k (.int 10)) (k (.int 6))) n)))) n)))) s))))⟩
noncomputable def Ju:S:=(q (d 6 (f 137 (c (v 3) (c (v 5) n)))) (q (.ite (a (p .le (v 5) (k (.int 60))) (p .ne (v 6) (f 700 (c (v 1) (c (v 2) (c (v 5) n)))))) (q (e (k (.bl false))) s) s) (q (.ite (z (t (f 92 (c (f 208 (c (v 1) (c (v 2) (c (v 5) n)))) (c (v 6) n))))) (q (e (k (.bl false))) s) s) (q (.ite (p .gK (f 257 (c (v 1) (c (v 2) (c (v 5) (c (v 4) (c (v 6) n)))))) (k (.bl true))) (q (e (k (.bl false))) s) s) s))))
noncomputable def Jv:Fn:=⟨3,7,(q (d 3 (f 112 (c (v 1) (c (v 2) n)))) (q (d 4 (.tup (c (b .tuple (c (x (v 3) (k (.int 0))) n)) (c (x (v 3) (k (.int 2))) n)))) (q (.«for» .seq (f 701 (c (v 0) (c (v 3) n))) (.one 5) Ju) (q (e (k (.bl true))) s))))⟩
noncomputable def Jw:E:=(v 0)
noncomputable def Jx:E:=(v 1)
noncomputable def FL:S:=(q (.ite (z (t (f 702 (c (v 1) (c (x (v 3) (v 5)) (c (x (v 4) (v 5)) n)))))) (q (e (k (.bl false))) s) s) s)
noncomputable def FN:Fn:=⟨1,6,(q (d 1 (f 3 (c (v 0) n))) (q (d 2 (m (c (f 132 (c (v 1) n)) (c (f 132 (c (v 1) n)) n)))) (q (d 3 (u .seq (v 2) (.many [0,1]) 2 [] (k (.bl true)) Jw)) (q (d 4 (u .seq (v 2) (.many [0,1]) 2 [] (k (.bl true)) Jx)) (q (.«for» .seq (m (c (k (.int 0)) (c (k (.int 1)) (c (k (.int 0)) n)))) (.one 5) FL) (q (e (k (.bl true))) s))))))⟩
noncomputable def cZ:Fn:=⟨0,0,.no⟩
end
noncomputable def fin(h:VH)(r:Res Fl):Res W:=r.bind λfl h'=>match fl with|.nx _=>leave h .aI h'|.rt w=>leave h w h'|_=>.no
theorem cA{F:Nat->Option Fn}{k f:Nat}{fn:Fn}{ws:List W}{h:VH}(hF:F f=aB fn)(hl:ws.length=fn.ps) :
 run F (k+1) f ws h=fin h (exs (run F k) fn.body (ws.map aB++bf (fn.n-fn.ps) aC) ⟨h.n,h.n,h.os⟩):=by
 simp only[run,hF];rw[if_pos (by rw[hl];exact Nat.beq_refl _)];rfl
theorem OL{h:VH}{w:W}{h':VH}(h1:h.n<=h'.lo)(h2:W.lt h.n w):leave h w h'=.ok w h:=by unfold leave;rw[if_pos (by rw[bM];exact⟨qA.mpr h1,h2⟩)]
theorem cU{h h':VH}{w:W}(h1:h.n<=h'.lo)(h2:W.lt h.n w):fin h (.ok (.rt w) h')=.ok w h:=OL h1 h2
theorem OM{h h':VH}{ρ:En}(h1:h.n<=h'.lo):fin h (.ok (.nx ρ) h')=.ok .aI h:=OL h1 (by simp only[W.lt])
@[simp] theorem aD {α β:Type} {a:α} {h:VH} {f:α->VH->Res β}:(Res.ok a h).bind f=f a h:=rfl
@[simp] theorem Jy {α β:Type} {f:α->VH->Res β}:(Res.no:Res α).bind f=.no:=rfl
@[simp] theorem aR {α:Type} {a:α} {h:VH}:Res.of (aB a) h=.ok a h:=rfl
@[simp] theorem Jz {α:Type} {h:VH}:Res.of (aC:Option α) h=.no:=rfl
@[simp] theorem JA {n:Nat}:W.lt n .aI=true:=by simp only[W.lt]
@[simp] theorem ON {n:Nat} {b:Bool}:W.lt n (.bl b)=true:=by simp only[W.lt]
@[simp] theorem lt_int {n:Nat} {b:Int}:W.lt n (.int b)=true:=by simp only[W.lt]
@[simp] theorem lt_str {n:Nat} {b:Str}:W.lt n (.str b)=true:=by simp only[W.lt]
@[simp] theorem oY {n:Nat} {b:List W}:W.lt n (.tup b)=W.kN n b:=by simp only[W.lt]
@[simp] theorem FO {n:Nat}:W.kN n []=true:=by simp only[W.kN]
@[simp] theorem iM {n:Nat} {b:W} {r:List W}:W.kN n (b::r)=(W.lt n b&&W.kN n r):=by simp only[W.kN]
@[simp] theorem wK:((Ty.int==Ty.int):Bool)=true:=rfl
@[simp] theorem uw:((Ty.int==Ty.bool):Bool)=false:=rfl
@[simp] theorem rY:((Ty.int==Ty.tuple):Bool)=false:=rfl
@[simp] theorem ux:((Ty.int==Ty.list):Bool)=false:=rfl
@[simp] theorem wL:((Ty.int==Ty.str):Bool)=false:=rfl
@[simp] theorem uy:((Ty.int==Ty.dict):Bool)=false:=rfl
@[simp] theorem uz:((Ty.bool==Ty.int):Bool)=false:=rfl
@[simp] theorem rZ:((Ty.bool==Ty.bool):Bool)=true:=rfl
@[simp] theorem qb:((Ty.bool==Ty.tuple):Bool)=false:=rfl
@[simp] theorem r9:((Ty.bool==Ty.list):Bool)=false:=rfl
@[simp] theorem uA:((Ty.bool==Ty.str):Bool)=false:=rfl
@[simp] theorem se:((Ty.bool==Ty.dict):Bool)=false:=rfl
@[simp] theorem sf:((Ty.tuple==Ty.int):Bool)=false:=rfl
@[simp] theorem qc:((Ty.tuple==Ty.bool):Bool)=false:=rfl
@[simp] theorem fm:((Ty.tuple==Ty.tuple):Bool)=true:=rfl
@[simp] theorem qd:((Ty.tuple==Ty.list):Bool)=false:=rfl
@[simp] theorem sj:((Ty.tuple==Ty.str):Bool)=false:=rfl
@[simp] theorem qe:((Ty.tuple==Ty.dict):Bool)=false:=rfl
@[simp] theorem uB:((Ty.list==Ty.int):Bool)=false:=rfl
@[simp] theorem sr:((Ty.list==Ty.bool):Bool)=false:=rfl
@[simp] theorem qf:((Ty.list==Ty.tuple):Bool)=false:=rfl
@[simp] theorem su:((Ty.list==Ty.list):Bool)=true:=rfl
@[simp] theorem uC:((Ty.list==Ty.str):Bool)=false:=rfl
@[simp] theorem sA:((Ty.list==Ty.dict):Bool)=false:=rfl
@[simp] theorem wM:((Ty.str==Ty.int):Bool)=false:=rfl
@[simp] theorem uD:((Ty.str==Ty.bool):Bool)=false:=rfl
@[simp] theorem sC:((Ty.str==Ty.tuple):Bool)=false:=rfl
@[simp] theorem uE:((Ty.str==Ty.list):Bool)=false:=rfl
@[simp] theorem wN:((Ty.str==Ty.str):Bool)=true:=rfl
@[simp] theorem uF:((Ty.str==Ty.dict):Bool)=false:=rfl
@[simp] theorem uG:((Ty.dict==Ty.int):Bool)=false:=rfl
@[simp] theorem sD:((Ty.dict==Ty.bool):Bool)=false:=rfl
@[simp] theorem qg:((Ty.dict==Ty.tuple):Bool)=false:=rfl
@[simp] theorem sF:((Ty.dict==Ty.list):Bool)=false:=rfl
@[simp] theorem uH:((Ty.dict==Ty.str):Bool)=false:=rfl
@[simp] theorem sG:((Ty.dict==Ty.dict):Bool)=true:=rfl
@[simp] theorem FP {t:Ty} {h:VH}:eS t h .aI=aB false:=rfl
@[simp] theorem JB {t:Ty} {h:VH} {b:Bool}:eS t h (.bl b)=aB (t == .int||t == .bool):=rfl
@[simp] theorem FQ {t:Ty} {h:VH} {i:Int}:eS t h (.int i)=aB (t == .int):=rfl
@[simp] theorem FT {t:Ty} {h:VH} {x:Str}:eS t h (.str x)=aB (t == .str):=rfl
@[simp] theorem lT {t:Ty} {h:VH} {x:List W}:eS t h (.tup x)=aB (t == .tuple):=rfl
@[simp] theorem bC {h:VH} {l i:Nat}:VH.get ⟨h.n,l,h.os⟩ i=h.get i:=by unfold VH.get;rfl
@[simp] theorem oZ {h:VH} {b:Bool}:fV h (.bl b)=aB b:=rfl
noncomputable def forL(tg:W->VH->En->Option En)(b:FS):List W->En->VH->Res Fl
 |[],ρ,h=>.ok (.nx ρ) h
 |w::r,ρ,h=>match tg w h ρ with
  |none=>.no
  |some ρ=>(b ρ h).bind λfl h=>match fl with
   |.nx ρ=>forL tg b r ρ h
   |.ct ρ=>forL tg b r ρ h
   |.bk ρ=>.ok (.nx ρ) h
   |.rt w=>.ok (.rt w) h
noncomputable def je(tg:W->VH->En->Option En)(c e:FE):List W->En->VH->Res (List W)
 |[],_,h=>.ok [] h
 |w::r,ρ,h=>match tg w h ρ with
  |none=>.no
  |some ρ=>(c ρ h).bind λb h=>match b with
   |.bl true=>(e ρ h).bind λy h=>(je tg c e r ρ h).bind λys h=>.ok (y::ys) h
   |.bl false=>je tg c e r ρ h
   |_=>.no
theorem OO{α β γ:Type}{r:Res α}{f:α->VH->Res β}{g:β->VH->Res γ}:(r.bind f).bind g=r.bind λa h=>(f a h).bind g:=by cases r<;>rfl
theorem FU{nx:Nat->VH->Option (Option W)}{tg:W->VH->En->Option En}{b:FS}{ws:List W}(hx:∀i h,nx i h=aB ws[i]?):∀(fu i:Nat) (ρ:En) (h:VH),i<=ws.length->ws.length<fu+i->cJ nx tg b fu i ρ h=forL tg b (ws.drop i) ρ h
 |0,i,ρ,h,hi,hl=>by lia
 |fu+1,i,ρ,h,hi,hl=>by
  simp only[cJ,hx];cases q:ws[i]? with
  |none=>
   rw[vc (ng.mp q)];rfl
  |some w=>
   obtain⟨hi,e⟩:=jK.mp q;rw[u9 hi,e];simp only[forL];cases tg w h ρ with
   |none=>rfl
   |some ρ'=>
    simp only;congr 1;funext fl h1;cases fl<;>simp only[FU hx fu (i+1) _ _ hi (by lia)]
theorem Cg{nx:Nat->VH->Option (Option W)}{tg:W->VH->En->Option En}{c e:FE}{ws:List W}(hx:∀i h,nx i h=aB ws[i]?):∀(fu i:Nat) (ρ:En) (h:VH) (acc:List W),i<=ws.length->ws.length<fu+i->
 eG nx tg c e fu i ρ h acc=(je tg c e (ws.drop i) ρ h).bind λys h=>.ok (acc.reverse++ys) h
 |0,i,ρ,h,acc,hi,hl=>by lia
 |fu+1,i,ρ,h,acc,hi,hl=>by
  simp only[eG,hx];cases q:ws[i]? with
  |none=>
   rw[vc (ng.mp q)];simp[je]
  |some w=>
   obtain⟨hi,ee⟩:=jK.mp q;rw[u9 hi,ee];simp only[je];cases tg w h ρ with
   |none=>rfl
   |some ρ'=>
    simp only[OO];congr 1;funext bv h1;cases bv<;>try rfl
    rename_i bb;cases bb with
    |true=>
     simp only[OO];congr 1;funext y h2;rw[Cg hx fu (i+1) _ _ _ hi (by lia)];congr 1;funext ys h3;simp
    |false=>simp only[Cg hx fu (i+1) _ _ _ hi (by lia)]
theorem wO{ws:List W}{tg:W->VH->En->Option En}{b:FS}{ρ:En}{h:VH}(hl:ws.length<1000000):cJ (bw .seq (.tup ws)) tg b fuel 0 ρ h=forL tg b ws ρ h:=by have:=FU (nx:=bw .seq (.tup ws)) (tg:=tg) (b:=b) (ws:=ws) (λi h=>rfl) fuel 0 ρ h (gX _) (by simpa[fuel]using hl);simpa using this
noncomputable def dg:Nat->List W->List W|_,[]=>[]|i,w::r=>.tup [.int i,w]::dg (i+1) r
theorem OP:∀(ws:List W) (i j:Nat),(dg j ws)[i]?=(ws[i]?).map λw=>.tup [.int ((j+i:Nat):Int),w]
 |[],i,j=>by simp[dg]
 |w::r,0,j=>by simp[dg]
 |w::r,i+1,j=>by
  simp only[dg,ir];rw[OP r i (j+1)];congr 1;funext w;rw[show j+1+i=j+ (i+1) by lia]
theorem OQ:∀(ws:List W) (j:Nat),(dg j ws).length=ws.length|[],_=>rfl|_::r,j=>by simp[dg,OQ r]
theorem OR{ws:List W}{tg:W->VH->En->Option En}{b:FS}{ρ:En}{h:VH}(hl:ws.length<1000000):cJ (bw .p5 (.tup ws)) tg b fuel 0 ρ h=forL tg b (dg 0 ws) ρ h:=by have:=FU (nx:=bw .p5 (.tup ws)) (tg:=tg) (b:=b) (ws:=dg 0 ws) (λi h=>by rw[OP];simp[bw,aN]) fuel 0 ρ h (gX _) (by simpa[fuel,OQ]using hl);simpa using this
noncomputable def dY(a:Int):Nat->List W|0=>[]|n+1=>.int a::dY (a+1) n
theorem zdt:∀(n i:Nat) (a:Int),(dY a n)[i]?=if i<n then aB (.int (a+i))else aC
 |0,i,a=>by simp[dY]
 |n+1,0,a=>by simp[dY]
 |n+1,i+1,a=>by
  simp only[dY,ir];rw[zdt n i (a+1)];by_cases q:i<n;rw[if_pos q,if_pos (by lia)];congr 2
  push_cast;lia;rw[if_neg q,if_neg (by lia)]
theorem JC:∀(n:Nat) (a:Int),(dY a n).length=n|0,_=>rfl|n+1,a=>by simp[dY,JC n]
theorem z1i{n:Nat}{tg:W->VH->En->Option En}{b:FS}{ρ:En}{h:VH}(hl:n<1000000):cJ (bw .fj (.tup [.int n])) tg b fuel 0 ρ h=forL tg b (dY 0 n) ρ h:=by
 have hf:fits (n:Int)=true:=by simp[fits];lia
 have:=FU (nx:=bw .fj (.tup [.int n])) (tg:=tg) (b:=b) (ws:=dY 0 n) (λi h=>by rw[zdt];simp[bw,hf]) fuel 0 ρ h (gX _) (by simpa[fuel,JC]using hl);simpa using this
theorem YX{n:Nat}{tg:W->VH->En->Option En}{c e:FE}{ρ:En}{h:VH}(hl:n<1000000):eG (bw .fj (.tup [.int n])) tg c e fuel 0 ρ h []=je tg c e (dY 0 n) ρ h:=by
 have hf:fits (n:Int)=true:=by simp[fits];lia
 have:=Cg (nx:=bw .fj (.tup [.int n])) (tg:=tg) (c:=c) (e:=e) (ws:=dY 0 n) (λi h=>by rw[zdt];simp[bw,hf]) fuel 0 ρ h [] (gX _) (by simpa[fuel,JC]using hl);rw[this];simp only[tB,DJ,qx];cases je tg c e (dY 0 n) ρ h<;>rfl
noncomputable def isInt:W->Bool|.int _=>true|_=>false
noncomputable def Kn(h:VH)(w:W):Prop:=eS .int h w≠aC
theorem fQ{h:VH}{l:Nat}{w:W}:Kn ⟨h.n,l,h.os⟩ w↔Kn h w:=by unfold Kn;cases w<;>simp[eS]
structure CoreA(F:Nat->Option Fn):Prop where
 f0:F 0=aB Fp
 f1:F 1=aB Jl
 f6:F 6=aB B8
 f7:F 7=aB B9
section
variable{F:Nat->Option Fn}(C:CoreA F)
include C
theorem YY{k:Nat}{h:VH}{w:W}(hw:Kn h w):run F (k+1) 0 [w] h=.ok (.bl (isInt w)) h:=by
 rw[cA C.f0 rfl];cases w<;>try(simp[Fp,exs,ev,isInt,cU];done)
 exact absurd rfl hw;rename_i i;unfold Kn at hw;simp only[eS]at hw;cases g:h.get i with
 |none=>rw[g]at hw;exact absurd rfl hw
 |some o=>cases o<;>first|(simp[Fp,exs,ev,isInt,cU,eS,g];done)|(simp[g]at hw)
noncomputable def within(w:W)(lo hi:Int):Bool:=match w with|.int i=>decide (lo<=i)&&decide (i<=hi)|_=>false
theorem uI{k:Nat}{h:VH}{w:W}{lo hi:Int}(hw:Kn h w):run F (k+2) 1 [w,.int lo,.int hi] h=.ok (.bl (within w lo hi)) h:=by rw[cA C.f1 rfl];have e:=YY C (k:=k) (h:=⟨h.n,h.n,h.os⟩) (w:=w) (fQ.mpr hw);cases w<;>simp[Jl,exs,ev,e,isInt,within,cU,aQ,fJ];rename_i i;by_cases h1:lo<=i<;>simp[h1,cU]
noncomputable def gF(w:W)(lo hi:Int):Bool:=match w with|.tup ws=>decide (lo<=ws.length)&&decide ((ws.length:Int)<=hi)|_=>false
theorem qh{k:Nat}{h:VH}{w:W}{lo hi:Int}(hw:Kn h w):run F (k+1) 6 [w,.int lo,.int hi] h=.ok (.bl (gF w lo hi)) h:=by
 rw[cA C.f6 rfl];cases w<;>try(simp[B8,exs,ev,gF,cU];done)
 rename_i ws;simp[B8,exs,ev,gF,cU,aQ,fJ,gT,fK,aN];by_cases h1:lo<=ws.length<;>simp[h1,cU];exact absurd rfl hw;rename_i i;unfold Kn at hw;simp only[eS]at hw;cases g:h.get i with
 |none=>rw[g]at hw;exact absurd rfl hw
 |some o=>cases o<;>first|(simp[B8,exs,ev,gF,cU,eS,g];done)|(simp[g]at hw)
theorem uJ{k:Nat}{h:VH}{t a b:W}{lo hi:Int}:∀(ws:List W) (x:Option W),(∀w∈ws,Kn h w)->∃y,forL (bz (.one 5)) (exs (run F (k+2)) Ft) ws [aB t,aB a,aB b,aB (.int lo),aB (.int hi),x] h =
 if ws.all (within · lo hi)then .ok (.nx [aB t,aB a,aB b,aB (.int lo),aB (.int hi),y]) h else .ok (.rt (.bl false)) h
 |[],x,_=>⟨x,by simp[forL]⟩
 |w::r,x,hk=>by
  obtain⟨y,e⟩:=uJ (t:=t) (a:=a) (b:=b) (k:=k) (lo:=lo) (hi:=hi) r (aB w) λz hz=>hk z (eU _ hz);refine⟨y,?_⟩;have e1:=uI C (k:=k) (lo:=lo) (hi:=hi) (hk w eX);have eb:exs (run F (k+2)) Ft [aB t,aB a,aB b,aB (.int lo),aB (.int hi),aB w] h=if within w lo hi then .ok (.nx [aB t,aB a,aB b,aB (.int lo),aB (.int hi),aB w]) h else .ok (.rt (.bl false)) h:=by cases q:within w lo hi<;>simp[Ft,exs,ev,e1,q]
  simp only[forL,bz,List.set,eb];cases q:within w lo hi<;>simp[q,e]
noncomputable def sH(w:W)(a b lo hi:Int):Bool:=match w with|.tup ws=>gF w a b&&ws.all (within · lo hi)|_=>false
theorem OS{k:Nat}{h:VH}{w:W}{a b lo hi:Int}(hw:Kn h w)(hp:∀ws,w=.tup ws->ws.length<1000000/\∀x∈ws,Kn h x):run F (k+3) 7 [w,.int a,.int b,.int lo,.int hi] h=.ok (.bl (sH w a b lo hi)) h:=by
 rw[cA C.f7 rfl];have e1:=qh C (k:=k+1) (h:=⟨h.n,h.n,h.os⟩) (w:=w) (lo:=a) (hi:=b) (fQ.mpr hw);cases q:gF w a b with
 |false=>
  have:sH w a b lo hi=false:=by cases w<;>simp[sH,q]
  simp[B9,exs,ev,e1,q,this,cU]
 |true=>
  cases w<;>try(simp[gF]at q;done)
  rename_i ws;obtain⟨hl,hk⟩:=hp ws rfl;obtain⟨y,e2⟩:=uJ C (k:=k) (h:=⟨h.n,h.n,h.os⟩) (t:=.tup ws) (a:=.int a) (b:=.int b) (lo:=lo) (hi:=hi) ws aC λx hx=>fQ.mpr (hk x hx);have e3:sH (.tup ws) a b lo hi=ws.all (within · lo hi):=by simp[sH,q]
  rw[e3];cases q2:ws.all (within · lo hi)with|true=>simp[B9,exs,ev,e1,q,wO hl,e2,q2,cU]|false=>simp[B9,exs,ev,e1,q,wO hl,e2,q2,cU]
end
noncomputable def g9:Nat->W->Bool
 |0,_=>false
 |n+1,w=>match w with
  |.aI=>true
  |.bl _=>true
  |.int _=>true
  |.str x=>PyData.strOk x
  |.tup ws=>ws.all (g9 n)
  |_=>false
theorem OT{f:W->Option aA}{p:W->Bool}{n:Nat}(h:∀w,p w=true->∃d,f w=aB d/\d.canLay0=true/\d.depth<=n):∀ws:List W,ws.all p=true->∃ds,aW f ws=aB ds/\PyData.canLayAll0 ds=true/\PyData.depthAll ds<=n
 |[],_=>⟨[],rfl,rfl,gX _⟩
 |w::r,e=>by
  rw[mh,bM]at e;obtain⟨d,h1,h2,h3⟩:=h w e.1;obtain⟨ds,h4,h5,h6⟩:=OT h r e.2;refine⟨d::ds,by simp[aW,h1,h4],?_,?_⟩;show(d.canLay0&&PyData.canLayAll0 ds)=true;rw[h2,h5];rfl;show max d.depth (PyData.depthAll ds)<=n;lia
theorem FW(h:VH):∀(n:Nat) (w:W),g9 n w=true->∃d,toD h n w=aB d/\d.canLay0=true/\d.depth<=n
 |0,_,e=>by cases e
 |n+1,w,e=>by
  cases w<;>simp only[g9]at e<;>try(cases e;done)
  exact⟨.none,rfl,rfl,gX _⟩;exact⟨.bool _,rfl,rfl,gX _⟩;exact⟨.int _,rfl,rfl,gX _⟩;exact⟨.str _,rfl,e,gX _⟩;obtain⟨ds,h1,h2,h3⟩:=OT (FW h n) _ e;exact⟨.tuple ds,by simp[toD,h1],h2,by show PyData.depthAll ds+1<=n+1;lia⟩
mutual
theorem OU:∀d:aA,d.canLay0=true->PyData.eqv d d=true
 |.none,_=>rfl
 |.bool b,_=>by simp[PyData.eqv]
 |.int i,_=>by simp[PyData.eqv]
 |.str x,_=>by simp[PyData.eqv]
 |.list xs,h=>by
  simp only[PyData.eqv];exact JD xs h
 |.tuple xs,h=>by
  simp only[PyData.eqv];exact JD xs h
 |.dict _,h=>by cases h
theorem JD:∀ds:List aA,PyData.canLayAll0 ds=true->PyData.eqvAll ds ds=true
 |[],_=>rfl
 |d::ds,h=>by
  have h:(d.canLay0&&PyData.canLayAll0 ds)=true:=h;rw[bM]at h;simp only[PyData.eqvAll,OU d h.1,JD ds h.2,xU]
end
theorem z1h{h:VH}{w:W}(p:g9 24 w):cR h w w=aB true:=by
 obtain⟨d,h1,h2,h3⟩:=FW h 24 w p;have hs:SeqAt.shaped d=true:=by unfold SeqAt.shaped;rw[h2,Bool.true_and,gH];lia
 unfold cR;rw[h1];simp[hs,OU d h2]
noncomputable def jO(w:W)(x:Str):Bool:=match w with|.str y=>y==x|_=>false
theorem wQ{h:VH}{w:W}{x:Str}(p:g9 24 w)(hx:PyData.strOk x):cR h w (.str x)=aB (jO w x):=by
 obtain⟨d,h1,h2,h3⟩:=FW h 24 w p;have hs:SeqAt.shaped d=true:=by unfold SeqAt.shaped;rw[h2,Bool.true_and,gH];lia
 have hs2:SeqAt.shaped (.str x)=true:=by unfold SeqAt.shaped;show(PyData.strOk x&&_)=true;rw[hx];rfl
 unfold cR;rw[h1];have h4:toD h 24 (.str x)=aB (.str x):=rfl;rw[h4];simp only[hs,hs2,xU,b9];cases w<;>simp only[toD]at h1<;>try(cases h1;done)
 cases h1;simp[jO,PyData.eqv];cases h1;simp[jO,PyData.eqv];cases h1;simp[jO,PyData.eqv];cases h1;simp[jO,PyData.eqv];obtain⟨ds,h5,h6⟩:=Option.map_eq_some_iff.mp h1;subst h6;simp[jO,PyData.eqv];simp[g9]at p;simp[g9]at p
theorem YZ{n:Nat}{ws:List W}:g9 (n+1) (.tup ws)=ws.all (g9 n):=rfl
theorem JE{h:VH}{n:Nat}{w:W}(p:g9 n w):Kn h w:=by
 unfold Kn;cases n with|zero=>cases p|succ n=>cases w<;>simp[g9,eS]at p ⊢
structure ju(F:Nat->Option Fn):Prop extends CoreA F where
 f8:F 8=aB Jo
 f9:F 9=aB Jp
 Y0:F 10=aB wo
 Y3:F 11=aB rP
 Y4:F 12=aB wu
 Y5:F 13=aB rQ
 Y6:F 14=aB wz
 Y7:F 15=aB wA
theorem yN:bB .aI=true:=rfl
noncomputable def sI(w:W)(n:Int):Bool:=bB w||within w 0 (n-1)
noncomputable def door(w:W)(n:Int):Bool:=match w with|.tup [a,b]=>within a 0 99&&sI b n|_=>false
noncomputable def mZ(w:W)(g:Int):Bool:=match w with|.tup [a,b]=>within a 0 (g-1)&&within b 0 1|_=>false
noncomputable def fY(w:W)(c wd g:Int):Bool:=
 if jO w "x" || mZ w g then decide (0<c)&&decide (c<wd-1)else if jO w "<"then decide (0<c)else if jO w ">"then decide (c<wd-1)else jO w "." || jO w "s"
section
variable{F:Nat->Option Fn}(C:ju F)
include C
theorem OV{k:Nat}{h:VH}{w:W}{n:Int}(hw:Kn h w):run F (k+3) 12 [w,.int n] h=.ok (.bl (sI w n)) h:=by rw[cA C.Y4 rfl];have e:=uI C.toCoreA (k:=k) (h:=⟨h.n,h.n,h.os⟩) (w:=w) (lo:=0) (hi:=n-1) (fQ.mpr hw);cases q:bB w<;>simp[wu,exs,ev,e,aQ,yN,q,sI,cU,ck,eF]
theorem Y8{k:Nat}{h:VH}{w:W}{n:Int}(hw:Kn h w)(hp:∀a b,w=.tup [a,b]->Kn h a/\Kn h b):run F (k+4) 11 [w,.int n] h=.ok (.bl (door w n)) h:=by
 rw[cA C.Y3 rfl];have e1:=qh C.toCoreA (k:=k+2) (h:=⟨h.n,h.n,h.os⟩) (w:=w) (lo:=2) (hi:=2) (fQ.mpr hw);cases q:gF w 2 2 with
 |false=>
  have:door w n=false:=by cases w<;>simp[door];rename_i ws;rcases ws with _|⟨a,_|⟨b,_|_⟩⟩<;>simp[gF]at q ⊢
  simp[rP,exs,ev,e1,q,this,cU]
 |true=>
  cases w<;>try(simp[gF]at q;done)
  rename_i ws;have hl:ws.length=2:=by simp[gF]at q;lia
  rcases ws with _|⟨a,_|⟨b,_|_⟩⟩<;>simp at hl;obtain⟨ka,kb⟩:=hp a b rfl;have e2:=uI C.toCoreA (k:=k+1) (h:=⟨h.n,h.n,h.os⟩) (w:=a) (lo:=0) (hi:=99) (fQ.mpr ka);have e3:=OV C (k:=k) (h:=⟨h.n,h.n,h.os⟩) (w:=b) (n:=n) (fQ.mpr kb);cases q2:within a 0 99<;>simp[rP,exs,ev,e1,q,e2,e3,q2,door,cU,bz,aN,gM]
theorem Y9{k:Nat}{h:VH}{w:W}{n:Int}(hw:Kn h w)(hp:∀a b,w=.tup [a,b]->Kn h a/\Kn h b):run F (k+3) 13 [w,.int n] h=.ok (.bl (mZ w n)) h:=by
 rw[cA C.Y5 rfl];have e1:=qh C.toCoreA (k:=k+1) (h:=⟨h.n,h.n,h.os⟩) (w:=w) (lo:=2) (hi:=2) (fQ.mpr hw);cases q:gF w 2 2 with
 |false=>
  have:mZ w n=false:=by cases w<;>simp[mZ];rename_i ws;rcases ws with _|⟨a,_|⟨b,_|_⟩⟩<;>simp[gF]at q ⊢
  simp[rQ,exs,ev,e1,q,this,cU]
 |true=>
  cases w<;>try(simp[gF]at q;done)
  rename_i ws;have hl:ws.length=2:=by simp[gF]at q;lia
  rcases ws with _|⟨a,_|⟨b,_|_⟩⟩<;>simp at hl;obtain⟨ka,kb⟩:=hp a b rfl;have e2:=uI C.toCoreA (k:=k) (h:=⟨h.n,h.n,h.os⟩) (w:=a) (lo:=0) (hi:=n-1) (fQ.mpr ka);have e3:=uI C.toCoreA (k:=k) (h:=⟨h.n,h.n,h.os⟩) (w:=b) (lo:=0) (hi:=1) (fQ.mpr kb);cases q2:within a 0 (n-1)<;>simp[rQ,exs,ev,e1,q,e2,e3,q2,mZ,cU,bz,aN,gM,ck,eF]
theorem Za{k:Nat}{h:VH}{w:W}{c wd g:Int}(p:g9 24 w):run F (k+4) 15 [w,.int c,.int wd,.int g] h=.ok (.bl (fY w c wd g)) h:=by
 rw[cA C.Y7 rfl];have hp:∀a b,w=.tup [a,b]->Kn ⟨h.n,h.n,h.os⟩ a/\Kn ⟨h.n,h.n,h.os⟩ b:=λa b e=>by
  subst e;have p:g9 (23+1) (.tup [a,b])=true:=p;rw[YZ,mh,mh,bM,bM]at p;exact⟨JE p.1,JE p.2.1⟩
 have e1:=Y9 C (k:=k) (h:=⟨h.n,h.n,h.os⟩) (w:=w) (n:=g) (JE p) hp;have sx:=wQ (h:=⟨h.n,h.n,h.os⟩) (x:=Str.ofString "x") p (by decide +kernel);have sl:=wQ (h:=⟨h.n,h.n,h.os⟩) (x:=Str.ofString "<") p (by decide +kernel);have sg:=wQ (h:=⟨h.n,h.n,h.os⟩) (x:=Str.ofString ">") p (by decide +kernel);have sd:=wQ (h:=⟨h.n,h.n,h.os⟩) (x:=Str.ofString ".") p (by decide +kernel);have ss:=wQ (h:=⟨h.n,h.n,h.os⟩) (x:=Str.ofString "s") p (by decide +kernel);unfold fY;cases q1:jO w (Str.ofString "x")<;>cases q2:mZ w g<;>cases q3:jO w (Str.ofString "<")<;>cases q4:jO w (Str.ofString ">")<;>cases q5:jO w (Str.ofString ".")<;>by_cases h1:0<c<;>
  simp[wA,exs,ev,aQ,fJ,sx,sl,sg,sd,ss,e1,ck,eF,q1,q2,q3,q4,q5,h1,cU]
theorem OW{k:Nat}{h:VH}{t a:W}{n:Int}:∀(ws:List W) (x:Option W),(∀w∈ws,Kn h w/\∀a b,w=.tup [a,b]->Kn h a/\Kn h b)->∃y,forL (bz (.one 3)) (exs (run F (k+4)) Fv) ws [aB t,aB a,aB (.int n),x] h =
 if ws.all (door · n)then .ok (.nx [aB t,aB a,aB (.int n),y]) h else .ok (.rt (.bl false)) h
 |[],x,_=>⟨x,by simp[forL]⟩
 |w::r,x,hk=>by
  obtain⟨y,e⟩:=OW (t:=t) (a:=a) (k:=k) (n:=n) r (aB w) λz hz=>hk z (eU _ hz);refine⟨y,?_⟩;obtain⟨k1,k2⟩:=hk w eX;have e1:=Y8 C (k:=k) (n:=n) k1 k2;have eb:exs (run F (k+4)) Fv [aB t,aB a,aB (.int n),aB w] h=if door w n then .ok (.nx [aB t,aB a,aB (.int n),aB w]) h else .ok (.rt (.bl false)) h:=by cases q:door w n<;>simp[Fv,exs,ev,e1,q]
  simp only[forL,bz,List.set,eb];cases q:door w n<;>simp[q,e]
theorem Zb{k:Nat}{h:VH}{ws:List W}{wd n:Int}(hl:ws.length=wd)(hz:ws.length<1000000)(hd:∀w∈ws,door w n):run F (k+5) 8 [.tup ws,.int wd,.int n] h=.ok (.bl true) h:=by
 rw[cA C.f8 rfl];have e1:=qh C.toCoreA (k:=k+3) (h:=⟨h.n,h.n,h.os⟩) (w:=.tup ws) (lo:=wd) (hi:=wd) (by unfold Kn;simp);have q:gF (.tup ws) wd wd=true:=by simp[gF,hl]
 have kn:∀w∈ws,Kn ⟨h.n,h.n,h.os⟩ w/\∀a b,w=.tup [a,b]->Kn ⟨h.n,h.n,h.os⟩ a/\Kn ⟨h.n,h.n,h.os⟩ b:=λw hw=>by
  have:=hd w hw;cases w<;>simp only[door]at this<;>try(cases this;done)
  rename_i us;refine⟨by unfold Kn;simp,λa b e=>?_⟩;cases e;simp only[bM]at this;obtain⟨h1,h2⟩:=this;refine⟨?_,?_⟩;cases a<;>simp[within]at h1;unfold Kn;simp;unfold sI at h2;cases b<;>simp[within,bB]at h2;unfold Kn;simp;unfold Kn;simp
 obtain⟨y,e2⟩:=OW C (k:=k) (h:=⟨h.n,h.n,h.os⟩) (t:=.tup ws) (a:=.int wd) (n:=n) ws aC kn;have ha:ws.all (door · n)=true:=lq.mpr hd;simp[Jo,exs,ev,e1,q,wO hz,e2,ha,cU]
theorem OX{k:Nat}{h:VH}{t:W}{wd:Int}:∀(ws:List W) (x:Option W),(∀w∈ws,∃us,w=.tup us/\us.length=wd)->∃y,forL (bz (.one 2)) (exs (run F (k+1)) Fw) ws [aB t,aB (.int wd),x] h=.ok (.nx [aB t,aB (.int wd),y]) h
 |[],x,_=>⟨x,by simp[forL]⟩
 |w::r,x,hk=>by
  obtain⟨y,e⟩:=OX (h:=h) (t:=t) (k:=k) (wd:=wd) r (aB w) λz hz=>hk z (eU _ hz);refine⟨y,?_⟩;obtain⟨us,rfl,hl⟩:=hk w eX;have e1:=qh C.toCoreA (k:=k) (h:=h) (w:=.tup us) (lo:=wd) (hi:=wd) (by unfold Kn;simp);have q:gF (.tup us) wd wd=true:=by simp[gF,hl]
  have eb:exs (run F (k+1)) Fw [aB t,aB (.int wd),aB (.tup us)] h=.ok (.nx [aB t,aB (.int wd),aB (.tup us)]) h:=by simp[Fw,exs,ev,e1,q]
  simp only[forL,bz,List.set,eb,aD,e]
theorem Zc{k:Nat}{h:VH}{ws:List W}{wd:Int}(hl:ws.length<=60)(hd:∀w∈ws,∃us,w=.tup us/\us.length=wd):run F (k+2) 9 [.tup ws,.int wd] h=.ok (.bl true) h:=by
 rw[cA C.f9 rfl];have e1:=qh C.toCoreA (k:=k) (h:=⟨h.n,h.n,h.os⟩) (w:=.tup ws) (lo:=0) (hi:=60) (by unfold Kn;simp);have q:gF (.tup ws) 0 60=true:=by simp[gF];lia
 obtain⟨y,e2⟩:=OX C (k:=k) (h:=⟨h.n,h.n,h.os⟩) (t:=.tup ws) (wd:=wd) ws aC hd;simp[Jp,exs,ev,e1,q,wO (show ws.length<1000000 by lia),e2,cU]
end
structure Bd where
 wd:Int
 gr:Int
 rows:List (List W)
 fd:List W
 dr:List W
noncomputable def Bd.w(B:Bd):W:=.tup [.int B.wd,.int B.gr,.tup (B.rows.map .tup),.tup B.fd,.tup B.dr]
noncomputable def dh(wd g:Int):Int->List W->Prop|_,[]=>True|c,w::r=>fY w c wd g=true/\dh wd g (c+1) r
structure Bd.Ok(B:Bd):Prop where
 w1:1<=B.wd
 w2:B.wd<=40
 g1:0<=B.gr
 g2:B.gr<=8
 r1:B.rows.length<=60
 r2:∀r∈B.rows,(r.length:Int)=B.wd/\dh B.wd B.gr 0 r
 f1:1<=B.fd.length
 f2:B.fd.length<=4
 f3:∀f∈B.fd,within f 0 (B.wd-1)=true
 d1:(B.dr.length:Int)=B.wd
 d2:∀d∈B.dr,door d B.fd.length=true
structure Bd.OY(B:Bd):Prop where
 w1:1<=B.wd
 w2:B.wd<=40
 g1:0<=B.gr
 g2:B.gr<=8
 r1:B.rows.length<=60
 r2:∀r∈B.rows,(r.length:Int)=B.wd
 f1:1<=B.fd.length
 f2:B.fd.length<=4
 f3:∀f∈B.fd,within f 0 (B.wd-1)=true
 d1:(B.dr.length:Int)=B.wd
 d2:∀d∈B.dr,door d B.fd.length=true
theorem Bd.Ok.Zd{B:Bd}(b:B.Ok):B.OY:=⟨b.w1,b.w2,b.g1,b.g2,b.r1,λr hr=>(b.r2 r hr).1,b.f1,b.f2,b.f3,b.d1,b.d2⟩
theorem Ze{w:W}{g:Int}(h:mZ w g)(n:Nat):g9 (n+2) w=true:=by
 cases w<;>simp only[mZ]at h<;>try(cases h;done)
 rename_i us;rcases us with _|⟨a,_|⟨b,_|_⟩⟩<;>simp at h
 obtain⟨h1,h2⟩:=h;cases a<;>simp[within]at h1;cases b<;>simp[within]at h2;rfl
theorem yO{w:W}{x:Str}(h:jO w x):w=.str x:=by cases w<;>simp[jO]at h;rw[h]
theorem Zf{w:W}{c wd g:Int}(h:fY w c wd g)(n:Nat):g9 (n+2) w=true:=by
 have st:∀x:Str,PyData.strOk x=true->jO w x=true->g9 (n+2) w=true:=λx hx e=>by rw[yO e];exact hx
 unfold fY at h;split at h;rename_i q;rw[xS]at q;rcases q with q|q
 exact st _ (by decide +kernel) q;exact Ze q n;split at h;rename_i q;exact st _ (by decide +kernel) q;split at h;rename_i q;exact st _ (by decide +kernel) q;rw[xS]at h;rcases h with q|q
 exact st _ (by decide +kernel) q;exact st _ (by decide +kernel) q
section
variable{F:Nat->Option Fn}(C:ju F)
include C
theorem Zg{k:Nat}{h:VH}{B:Bd}(b:B.OY):run F (k+6) 10 [B.w] h=.ok (.bl true) h:=by
 rw[cA C.Y0 rfl];have e1:=qh C.toCoreA (k:=k+4) (h:=⟨h.n,h.n,h.os⟩) (w:=B.w) (lo:=5) (hi:=5) (by unfold Kn Bd.w;simp);have q1:gF B.w 5 5=true:=by simp[gF,Bd.w]
 have e2:=uI C.toCoreA (k:=k+3) (h:=⟨h.n,h.n,h.os⟩) (w:=.int B.wd) (lo:=1) (hi:=40) (by unfold Kn;simp);have q2:within (.int B.wd) 1 40=true:=by simp[within,b.w1,b.w2]
 have e3:=uI C.toCoreA (k:=k+3) (h:=⟨h.n,h.n,h.os⟩) (w:=.int B.gr) (lo:=0) (hi:=8) (by unfold Kn;simp);have q3:within (.int B.gr) 0 8=true:=by simp[within,b.g1,b.g2]
 have kf:∀x∈B.fd,Kn ⟨h.n,h.n,h.os⟩ x:=λx hx=>by
  have:=b.f3 x hx;cases x<;>simp[within]at this;unfold Kn;simp
 have hf:=b.f2;have e4:=OS C.toCoreA (k:=k+2) (h:=⟨h.n,h.n,h.os⟩) (w:=.tup B.fd) (a:=1) (b:=4) (lo:=0) (hi:=B.wd-1) (by unfold Kn;simp) (λws e=>by cases e;exact⟨by lia,kf⟩);have q4:sH (.tup B.fd) 1 4 0 (B.wd-1)=true:=by have h1:=b.f1;simp only[sH,gF,bM,gH];exact⟨⟨by lia,by lia⟩,lq.mpr b.f3⟩
 have e5:=Zc C (k:=k+3) (h:=⟨h.n,h.n,h.os⟩) (ws:=B.rows.map .tup) (wd:=B.wd) (by rw[bF];exact b.r1) (λw hw=>by
  obtain⟨r,hr,e⟩:=jh.mp hw;exact⟨r,e.symm,b.r2 r hr⟩)
 have hd:=b.d1;have Zh:=b.w2;have e6:=Zb C (k:=k) (h:=⟨h.n,h.n,h.os⟩) (ws:=B.dr) (wd:=B.wd) (n:=B.fd.length) hd (by lia) b.d2;unfold Bd.w at e1 q1 ⊢;simp[wo,exs,ev,e1,q1,e2,q2,e3,q3,e4,q4,e5,e6,cU,bz,aN,gM,ck,eF,gT,fK]
theorem Zi{k:Nat}{h:VH}{B:Bd}(b:B.Ok):run F (k+6) 10 [B.w] h=.ok (.bl true) h:=Zg C b.Zd
theorem OZ{k:Nat}{h:VH}{t rs pl:W}{wd g r0:Int}:∀(ws:List W) (c:Int) (j:Nat) (x y:Option W),c=j->dh wd g c ws->∃x' y',forL (bz (.many [6,7])) (exs (run F (k+4)) Fx) (dg j ws) [aB t,aB (.int wd),aB (.int g),aB rs,aB (.int r0),aB pl,x,y] h =
 .ok (.nx [aB t,aB (.int wd),aB (.int g),aB rs,aB (.int r0),aB pl,x',y']) h
 |[],c,j,x,y,_,_=>⟨x,y,by simp[forL,dg]⟩
 |w::r,c,j,x,y,hc,ho=>by
  obtain⟨h1,h2⟩:=ho;obtain⟨x',y',e⟩:=OZ (h:=h) (t:=t) (rs:=rs) (pl:=pl) (k:=k) (wd:=wd) (g:=g) (r0:=r0) r (c+1) (j+1) (aB (.int j)) (aB w) (by rw[hc];push_cast;rfl) h2;refine⟨x',y',?_⟩;have e1:=Za C (k:=k) (h:=h) (c:=j) (wd:=wd) (g:=g) (Zf h1 22);rw[<-hc,h1]at e1;have eb:exs (run F (k+4)) Fx [aB t,aB (.int wd),aB (.int g),aB rs,aB (.int r0),aB pl,aB (.int j),aB w] h=.ok (.nx [aB t,aB (.int wd),aB (.int g),aB rs,aB (.int r0),aB pl,aB (.int j),aB w]) h:=by rw[hc]at e1;simp[Fx,exs,ev,e1]
  simp only[forL,dg,bz,aN,gM,List.set,eb,aD,e]
theorem O0{k:Nat}{h:VH}{t rs:W}{wd g:Int}:∀(ws:List (List W)) (j:Nat) (x y z u:Option W),(∀r∈ws,(r.length:Int)<1000000/\dh wd g 0 r)->∃x' y' z' u',forL (bz (.many [4,5])) (exs (run F (k+4)) Fy) (dg j (ws.map .tup)) [aB t,aB (.int wd),aB (.int g),aB rs,x,y,z,u] h =
 .ok (.nx [aB t,aB (.int wd),aB (.int g),aB rs,x',y',z',u']) h
 |[],j,x,y,z,u,_=>⟨x,y,z,u,by simp[forL,dg]⟩
 |w::r,j,x,y,z,u,ho=>by
  obtain⟨h1,h2⟩:=ho w eX;obtain⟨z1,u1,e1⟩:=OZ C (k:=k) (h:=h) (t:=t) (rs:=rs) (pl:=.tup w) (wd:=wd) (g:=g) (r0:=j) w 0 0 z u rfl h2;obtain⟨x',y',z',u',e⟩:=O0 (h:=h) (t:=t) (rs:=rs) (k:=k) (wd:=wd) (g:=g) r (j+1) (aB (.int j)) (aB (.tup w)) z1 u1 λq hq=>ho q (eU _ hq);refine⟨x',y',z',u',?_⟩;have eb:exs (run F (k+4)) Fy [aB t,aB (.int wd),aB (.int g),aB rs,aB (.int j),aB (.tup w),z,u] h=.ok (.nx [aB t,aB (.int wd),aB (.int g),aB rs,aB (.int j),aB (.tup w),z1,u1]) h:=by simp[Fy,exs,ev,OR (show w.length<1000000 by lia),e1]
  simp only[forL,dz,dg,bz,aN,gM,List.set,eb,aD,e]
theorem Zj{k:Nat}{h:VH}{B:Bd}(b:B.Ok):run F (k+7) 14 [B.w] h=.ok .aI h:=by
 rw[cA C.Y6 rfl];have e1:=Zi C (k:=k) (h:=⟨h.n,h.n,h.os⟩) b;have Zh:=b.w2;have Zk:=b.r1;obtain⟨x',y',z',u',e2⟩:=O0 C (k:=k+2) (h:=⟨h.n,h.n,h.os⟩) (t:=B.w) (rs:=.tup (B.rows.map .tup)) (wd:=B.wd) (g:=B.gr) B.rows 0 aC aC aC aC λr hr=>⟨by have:=(b.r2 r hr).1;lia,(b.r2 r hr).2⟩
 unfold Bd.w at e1 e2 ⊢;simp[wz,exs,ev,e1,OM,bz,aN,gM,dN,gw,HT.bI,OR (show(B.rows.map W.tup).length<1000000 by rw[bF];lia),e2]
end
structure CoreD(F:Nat->Option Fn):Prop where
 f2:F 2=aB Fq
 f3:F 3=aB B6
 f4:F 4=aB Jm
 f5:F 5=aB rO
theorem iN{h:VH}{i j:Int}:cR h (.int i) (.int j)=aB (decide (i=j)):=by unfold cR;simp only[toD];show aB (i==j)=_;by_cases q:i=j<;>simp[q]
theorem yP{i:Int}(h1:-(2 ^ 63)<=i)(h2:i<2 ^ 63):nu i=true:=by unfold nu;simp only[bM,gH];lia
theorem uK{h:VH}{i:Nat}{o o0:VO}(g:h.get i=aB o0):(h.set i o).get i=aB o:=by have hi:=cK g;unfold VH.get at g;rw[if_pos (fD.mpr hi)]at g;have hl:=(jK.mp g).1;unfold VH.get VH.set;simp only[if_pos (fD.mpr hi)];rw[xK hl]
theorem o4{h:VH}{i j:Nat}{o o0:VO}(g:h.get i=aB o0)(hj:j≠i):(h.set i o).get j=h.get j:=Ie (cK g) hj
structure Dk(h:VH)(d c:Nat)(b:Nat):Prop where
 ne:d≠c
 st:∃(ns cells:List Int) (p q:Int),h.get d=aB (.lst [.fz (ns.map .int),.ref c,.int p,.int q])/\h.get c=aB (.lst (cells.map .int))/\(∀x∈cells,(0:Int)<=x)/\0<=p/\0<=q/\q<=b/\cells.length<=63
theorem Dk.mono{h:VH}{d c b b':Nat}(D:Dk h d c b)(hb:b<=b'):Dk h d c b':=by obtain⟨ne,ns,cells,p,q,a1,a2,a3,a4,a5,a6,a7⟩:=D;exact⟨ne,ns,cells,p,q,a1,a2,a3,a4,a5,by lia,a7⟩
structure bD(h h':VH)(d c:Nat):Prop where
 le:h.n<=h'.n
 get:∀i o,i≠d->i≠c->h.get i=aB o->h'.get i=aB o
theorem bD.refl{h:VH}{d c:Nat}:bD h h d c:=⟨bq _,λ_ _ _ _ e=>e⟩
theorem bD.trans{h h1 h2:VH}{d c:Nat}(a:bD h h1 d c)(b:bD h1 h2 d c):bD h h2 d c:=⟨iY a.le b.le,λi o h1 h2 e=>b.get i o h1 h2 (a.get i o h1 h2 e)⟩
theorem JF(i:Int):(if i<0 then -i else i)=(i.natAbs:Int):=by split<;>lia
section
variable{F:Nat->Option Fn}(C:CoreD F)
include C
theorem cell{k:Nat}{h:VH}{ns:List Int}{j:Int}(hj:0<=j):∃r,run F (k+1) 2 [.fz (ns.map .int),.int j] h=.ok (.int r) h/\0<=r:=by
 rw[cA C.f2 rfl];cases ns with
 |nil=>
  refine⟨7*j+3,?_,by lia⟩;simp[Fq,exs,ev,gT,fK,aN,aQ,iN,ck,eF,yP,cU]
 |cons n0 qi=>
  have hl:(0:Int)< ((n0::qi).length:Int):=by simp only[dG];lia
  have hm1:=DQ j (show((n0::qi).length:Int)≠0 by lia);have hm2:=DP j hl;obtain⟨m,hm⟩:=kC hm1;have hml:m< (n0::qi).length:=by lia
  have ha:cz (List.map W.int (n0::qi)) (j % ((n0::qi).length:Int))=aB (.int ((n0::qi)[m])):=by rw[hm];exact pY (by rw[iC,iA hml];rfl)
  have hb:¬(((qi.length:Int)+1)=0):=by lia
  have hp:(0:Int)< (qi.length:Int)+1:=by lia
  refine⟨(((n0::qi)[m]).natAbs:Int),?_,by lia⟩;simp only[dG,Int.natCast_add,Int.cast_ofNat_Int,dz]at ha;simp[Fq,exs,ev,gT,fK,aN,aQ,iN,ck,eF,cU,bx,kO,hb,hp,ha,JF]
theorem mixed{k:Nat}{h:VH}{ns:List Int}{j m:Int}(hj:0<=j)(hj2:j<=1000000000)(hm:0<m):∃r,run F (k+2) 4 [.fz (ns.map .int),.int j,.int m] h=.ok (.int r) h/\0<=r/\r<m:=by
 rw[cA C.f4 rfl];obtain⟨c,e1,hc⟩:=cell C (k:=k) (h:=⟨h.n,h.n,h.os⟩) (ns:=ns) hj;have h1:=DQ c (show(1000003:Int)≠0 by decide);have h2:=DP c (show(0:Int)<1000003 by decide);generalize hx:c % 1000003=x at h1 h2;have s1:nu (x+5)=true:=yP (by lia) (by lia);have s2:nu 7919=true:=yP (by decide) (by decide);have hb:(x+5)* (j+2)<=1000008*1000000002:=Int.mul_le_mul (by lia) (by lia) (by lia) (by lia);have hb0:0<=(x+5)* (j+2):=Int.mul_nonneg (by lia) (by lia);generalize hy:(x+5)* (j+2)=y at hb hb0;have hn:(y+7919*j).natAbs<2 ^ 64:=by lia
 refine⟨(y+7919*j) ^ 5 % 2147483647/13 % m,?_,DQ _ (by lia),DP _ hm⟩;have hn':(y+7919*j).natAbs<18446744073709551616:=by lia
 simp[Jm,exs,ev,e1,ck,eF,hx,s1,s2,hy,hn',hm,cU]
theorem O1{k:Nat}{d c:Nat}{m q:Int}{ns:List Int}(hdc:d≠c)(hm:0<m)(hm2:m<1073741824):∀(n f:Nat) (g:VH) (x:Option W) (cells:List Int) (p:Int),n<f->(cells.length:Int)-p<=n->0<=p->(∀y∈cells,(0:Int)<=y)->
 g.get d=aB (.lst [.fz (ns.map .int),.ref c,.int p,.int q])->g.get c=aB (.lst (cells.map .int))->
 ∃(g':VH) (cells':List Int) (p':Int),0<=p'/\(∀y∈cells',(0:Int)<=y)/\cells'.length=cells.length/\g'.get d=aB (.lst [.fz (ns.map .int),.ref c,.int p',.int q])/\g'.get c=aB (.lst (cells'.map .int))/\g'.n=g.n/\(∀i,i≠d->i≠c->g'.get i=g.get i)/\
  ((∃r,bR (ev (run F (k+2)) B7) (exs (run F (k+2)) wm) f [aB (.ref d),aB (.int m),x] g=.ok (.rt (.int r)) g'/\0<=r/\r<m)\/∃y,bR (ev (run F (k+2)) B7) (exs (run F (k+2)) wm) f [aB (.ref d),aB (.int m),x] g=.ok (.nx [aB (.ref d),aB (.int m),y]) g')
 |n,0,g,x,cells,p,hf,_,_,_,_,_=>by lia
 |n,f+1,g,x,cells,p,hf,hn,hp,hnn,gd,gc=>by
  have ec:ev (run F (k+2)) B7 [aB (.ref d),aB (.int m),x] g=.ok (.bl (decide (p<cells.length))) g:=by simp[B7,ev,bx,gd,cz,iw,gT,fK,aN,gc,aQ,fJ]
  by_cases hlt:p<cells.length;obtain⟨pn,rfl⟩:=kC hp;have hpl:pn<cells.length:=by lia
  have hat:cz (cells.map W.int) (pn:Int)=aB (.int cells[pn]):=pY (by rw[iC,iA hpl];rfl);by_cases hpos:0<cells[pn];refine⟨g.set c (.lst ((cells.set pn (cells[pn]/m)).map .int)),cells.set pn (cells[pn]/m),pn,hp,?_,by simp,?_,uK gc,rfl,λi _ hi=>o4 gc hi,.inl ⟨cells[pn] % m,?_,DQ _ (by lia),DP _ hm⟩⟩;intro y hy;rcases List.mem_or_eq_of_mem_set hy with hy|rfl
  exact hnn y hy;exact Int.ediv_nonneg (by lia) (by lia);rw[o4 gc hdc];exact gd;have hix:iw (cells.map W.int).length (pn:Int)=aB pn:=by unfold iw;rw[if_pos (by lia),if_pos (by rw[bF];lia)];simp
  have eb:exs (run F (k+2)) wm [aB (.ref d),aB (.int m),x] g=.ok (.rt (.int (cells[pn] % m))) (g.set c (.lst ((cells.set pn (cells[pn]/m)).map .int))):=by have h2:cz [W.fz (ns.map .int),.ref c,.int pn,.int q] 2=aB (.int pn):=rfl;have h1:cz [W.fz (ns.map .int),.ref c,.int pn,.int q] 1=aB (.ref c):=rfl;simp[wm,exs,ev,bx,gd,h1,h2,gc,hat,aQ,fJ,hpos,ck,eF,hm,hm2]at hix ⊢;simp[hix,hm,List.map_set]
  simp[bR,ec,hlt,eb];have gs:(g.set d (.lst [.fz (ns.map .int),.ref c,.int ((pn:Int)+1),.int q])).get c=aB (.lst (cells.map .int)):=by rw[o4 gd (gf hdc)];exact gc
  cases n with
  |zero=>lia
  |succ n=>
   obtain⟨g',cells',p',a1,a2,a3,a4,a5,a6,a7,a8⟩:=O1 (k:=k) hdc hm hm2 n f (g.set d (.lst [.fz (ns.map .int),.ref c,.int ((pn:Int)+1),.int q])) (aB (.int cells[pn])) cells (pn+1) (by lia) (by lia) (by lia) hnn (uK gd) gs;have eb:exs (run F (k+2)) wm [aB (.ref d),aB (.int m),x] g=.ok (.nx [aB (.ref d),aB (.int m),aB (.int cells[pn])]) (g.set d (.lst [.fz (ns.map .int),.ref c,.int ((pn:Int)+1),.int q])):=by have h2:cz [W.fz (ns.map .int),.ref c,.int pn,.int q] 2=aB (.int pn):=rfl;have h1:cz [W.fz (ns.map .int),.ref c,.int pn,.int q] 1=aB (.ref c):=rfl;have h3:iw 4 2=aB 2:=rfl;simp[wm,exs,ev,bx,gd,h1,h2,h3,gc,hat,aQ,fJ,hpos,ck,eF]
   refine⟨g',cells',p',a1,a2,a3,a4,a5,a6,λi h1 h2=>by rw[a7 i h1 h2,o4 gd h1],?_⟩;rcases a8 with⟨r,e,h3⟩|⟨y,e⟩
   exact .inl ⟨r,by simp[bR,ec,hlt,eb,e],h3⟩;exact .inr ⟨y,by simp[bR,ec,hlt,eb,e]⟩
  exact⟨g,cells,p,hp,hnn,rfl,gd,gc,rfl,λ_ _ _=>rfl,.inr ⟨x,by simp[bR,ec,hlt]⟩⟩
omit C in
theorem JG{h h':VH}{w:W}(g:fX ⟨h.n,h.n,h.os⟩ h'):∃h2,leave h w h'=.ok w h2/\h.n<=h2.n/\∀i,i<h.n->h2.get i=h'.get i:=by
 unfold leave;split;rename_i q;rw[bM]at q;have hlo:=lu q.1;exact⟨h,rfl,bq _,λi hi=>by
  rw[g.2.2 i hi (dS hi hlo)];exact bC.symm⟩
 exact⟨_,rfl,g.1,λi hi=>bC⟩
theorem take{k:Nat}{h:VH}{d c b:Nat}{m:Int}(D:Dk h d c b)(hb:b<1000000000)(hm:0<m)(hm2:m<1073741824):∃r h',run F (k+3) 5 [.ref d,.int m] h=.ok (.int r) h'/\0<=r/\r<m/\Dk h' d c (b+1)/\bD h h' d c:=by
 rw[cA C.f5 rfl];obtain⟨hne,ns,cells,p,q,gd,gc,hnn,hp,hq,hqb,hl⟩:=D;have Zl:VH.get ⟨h.n,h.n,h.os⟩ d=aB (.lst [.fz (ns.map .int),.ref c,.int p,.int q]):=by rw[bC];exact gd
 have Ci:VH.get ⟨h.n,h.n,h.os⟩ c=aB (.lst (cells.map .int)):=by rw[bC];exact gc
 obtain⟨g',cells',p',a1,a2,a3,a4,a5,a6,a7,a8⟩:=O1 C (k:=k) hne hm hm2 63 fuel ⟨h.n,h.n,h.os⟩ aC cells p (by decide) (by lia) hp hnn Zl Ci;have key:∀(g2:VH)(r:Int)(iO:List Int)(p2 q2:Int),exs (run F (k+2)) rO.body [aB (.ref d),aB (.int m),aC] ⟨h.n,h.n,h.os⟩=.ok (.rt (.int r)) g2->0<=r->r<m->0<=p2->0<=q2->q2<=b+1->iO.length<=63->(∀y∈iO,(0:Int)<=y)->
  g2.get d=aB (.lst [.fz (ns.map .int),.ref c,.int p2,.int q2])->g2.get c=aB (.lst (iO.map .int))->(∀i,i<h.n->i≠d->i≠c->g2.get i=h.get i)->
  ∃r h',fin h (exs (run F (k+2)) rO.body ([W.ref d,W.int m].map aB++bf (rO.n-rO.ps) aC) ⟨h.n,h.n,h.os⟩)=.ok (.int r) h'/\0<=r/\r<m/\Dk h' d c (b+1)/\bD h h' d c:=by
  intro g2 r iO p2 q2 e r1 r2 b1 b2 b3 b4 b5 b6 b7 b8;obtain⟨h2,e2,hn2,sJ⟩:=JG (w:=.int r) (BA (BB F (k+2)) _ _ _ _ _ e);refine⟨r,h2,?_,r1,r2,⟨hne,ns,iO,p2,q2,?_,?_,b5,b1,b2,by lia,b4⟩,⟨hn2,λi o h1 h3 e3=>?_⟩⟩;show fin h (exs (run F (k+2)) rO.body [aB (.ref d),aB (.int m),aC] ⟨h.n,h.n,h.os⟩)=_;rw[e];exact e2;rw[sJ d (cK gd)];exact b6;rw[sJ c (cK gc)];exact b7;rw[sJ i (cK e3),b8 i (cK e3) h1 h3];exact e3
 rcases a8 with⟨r,e,r1,r2⟩|⟨y,e⟩;refine key g' r cells' p' q ?_ r1 r2 a1 hq (by lia) (by lia) a2 a4 a5 λi hi h1 h2=>by rw[a7 i h1 h2,bC]
 simp[rO,exs,e];obtain⟨r,e2,r1,r2⟩:=mixed C (k:=k) (h:=g'.set d (.lst [.fz (ns.map .int),.ref c,.int p',.int (q+1)])) (ns:=ns) (j:=q+1) (m:=m) (by lia) (by lia) hm;refine key (g'.set d (.lst [.fz (ns.map .int),.ref c,.int p',.int (q+1)])) r cells' p' (q+1) ?_ r1 r2 a1 (by lia) (by lia) (by lia) a2 (uK a4) (by rw[o4 a4 (gf hne)];exact a5) λi hi h1 h2=>by rw[o4 a4 h1,a7 i h1 h2,bC]
 have h3:cz [W.fz (ns.map .int),.ref c,.int p',.int q] 3=aB (.int q):=rfl;have h30:cz [W.fz (ns.map .int),.ref c,.int p',.int (q+1)] 3=aB (.int (q+1)):=rfl;have Zm:cz [W.fz (ns.map .int),.ref c,.int p',.int (q+1)] 0=aB (.fz (ns.map .int)):=rfl;have Zn:iw 4 3=aB 3:=rfl;have hs:=uK (o:=.lst [.fz (ns.map .int),.ref c,.int p',.int (q+1)]) a4;simp[rO,exs,e,ev,bx,a4,h3,ck,eF,Zn,hs,h30,Zm,e2]
end
theorem aT{cl:Call}{a b:S}{ρ ρ':En}{h h':VH}(e:exs cl a ρ h=.ok (.nx ρ') h'):exs cl (.seq a b) ρ h=exs cl b ρ' h':=by simp only[exs,e,aD]
theorem cQ{cl:Call}{a b:S}{ρ:En}{w:W}{h h':VH}(e:exs cl a ρ h=.ok (.rt w) h'):exs cl (.seq a b) ρ h=.ok (.rt w) h':=by simp only[exs,e,aD]
@[simp] theorem Cj {cl:Call} {ρ:En} {h:VH}:exs cl .skip ρ h=.ok (.nx ρ) h:=rfl
theorem Dk.new{h:VH}{d c b:Nat}{o:VO}(D:Dk h d c b):Dk (h.new o) d c b:=by obtain⟨ne,ns,cells,p,q,a1,a2,a3⟩:=D;exact⟨ne,ns,cells,p,q,by rw[gE (cK a1)];exact a1,by rw[gE (cK a2)];exact a2,a3⟩
theorem bD.new{h h':VH}{d c:Nat}{o:VO}(K:bD h h' d c):bD h (h'.new o) d c:=⟨DM K.le,λi o' h1 h2 e=>by
 have:=K.get i o' h1 h2 e;rw[gE (cK this)];exact this⟩
theorem Dk.lo{h:VH}{d c b l:Nat}(D:Dk h d c b):Dk ⟨h.n,l,h.os⟩ d c b:=by obtain⟨ne,ns,cells,p,q,a1,a2,a3⟩:=D;exact⟨ne,ns,cells,p,q,by rw[bC];exact a1,by rw[bC];exact a2,a3⟩
theorem sL{cl:Call}{h h':VH}{d c b:Nat}{w:W}{fl:Fl}{body:S}{ρ:En}{F:Nat->Option Fn}{k:Nat}(e:exs (run F k) body ρ ⟨h.n,h.n,h.os⟩=.ok (.rt w) h')(D0:Dk h d c 0\/∃b,Dk h d c b)(D:Dk h' d c b)(K:bD ⟨h.n,h.n,h.os⟩ h' d c) :
 ∃h2,fin h (exs (run F k) body ρ ⟨h.n,h.n,h.os⟩)=.ok w h2/\Dk h2 d c b/\bD h h2 d c:=by
 obtain⟨h2,e2,hn2,sJ⟩:=JG (w:=w) (BA (BB F k) _ _ _ _ _ e);have hd:d<h.n/\c<h.n:=by rcases D0 with⟨_,ns,cells,p,q,a1,a2,_⟩|⟨b,_,ns,cells,p,q,a1,a2,_⟩<;>exact⟨cK a1,cK a2⟩
 refine⟨h2,by rw[e];exact e2,?_,⟨hn2,λi o h1 h3 e3=>?_⟩⟩;obtain⟨ne,ns,cells,p,q,a1,a2,a3⟩:=D;exact⟨ne,ns,cells,p,q,by rw[sJ d hd.1];exact a1,by rw[sJ c hd.2];exact a2,a3⟩;rw[sJ i (cK e3)];exact K.get i o h1 h3 (by rw[bC];exact e3)
theorem Ck{cl:Call}{a b:E}{ρ:En}{h:VH}{x y:Bool}(ea:ev cl a ρ h=.ok (.bl x) h)(eb:ev cl b ρ h=.ok (.bl y) h):ev cl (.and a b) ρ h=.ok (.bl (x&&y)) h:=by rw[ev,ea,aD];cases x;rfl;exact eb
theorem Zo{cl:Call}{a b:E}{ρ:En}{h:VH}{x y:Bool}(ea:ev cl a ρ h=.ok (.bl x) h)(eb:ev cl b ρ h=.ok (.bl y) h):ev cl (.or a b) ρ h=.ok (.bl (x||y)) h:=by rw[ev,ea,aD];cases x;exact eb;rfl
structure CoreP(F:Nat->Option Fn):Prop extends CoreD F where
 Zp:F 21=aB oU
 Zq:F 23=aB wB
 Zr:F 25=aB rR
noncomputable abbrev aP:Str:=Str.ofString "."
noncomputable abbrev cC:Str:=Str.ofString "<"
noncomputable abbrev cH:Str:=Str.ofString ">"
noncomputable abbrev sX:Str:=Str.ofString "x"
noncomputable abbrev sS:Str:=Str.ofString "s"
theorem O2{c wd g:Int}:fY (.str aP) c wd g=true:=rfl
theorem Cm{c wd g:Int}:fY (.str sS) c wd g=true:=rfl
theorem O3{c wd g:Int}(h:0<c):fY (.str cC) c wd g=true:=by have:fY (.str cC) c wd g=decide (0<c):=rfl;rw[this];simpa using h
theorem O4{c wd g:Int}(h:c<wd-1):fY (.str cH) c wd g=true:=by have:fY (.str cH) c wd g=decide (c<wd-1):=rfl;rw[this];simpa using h
theorem Cn{c wd g:Int}(h:0<c)(h2:c<wd-1):fY (.str sX) c wd g=true:=by have:fY (.str sX) c wd g=(decide (0<c)&&decide (c<wd-1)):=rfl;rw[this];simp[h,h2]
theorem Zs{c wd g a b:Int}(a0:0<=a)(a1:a<g)(b0:0<=b)(b1:b<2)(h:0<c)(h2:c<wd-1):fY (.tup [.int a,.int b]) c wd g=true:=by
 have h3:mZ (.tup [.int a,.int b]) g=true:=by simp only[mZ,within,bM,gH];lia
 unfold fY;rw[h3,Bool.or_true,if_pos rfl];simp[h,h2]
inductive Raw(g:Int):W->Prop
 |dot:Raw g (.str aP)
 |lt:Raw g (.str cC)
 |gt:Raw g (.str cH)
 |x:Raw g (.str sX)
 |rk {a b:Int}:0<=a->a<g->0<=b->b<2->Raw g (.tup [.int a,.int b])
theorem lU{h:VH}{x y z:Str}(hx:PyData.strOk x)(hy:PyData.strOk y)(hz:PyData.strOk z):j5 h (.str x) (.tup [.str y,.str z])=aB (y==x||z==x):=by
 have sx:SeqAt.shaped (.str x)=true:=by unfold SeqAt.shaped;show(PyData.strOk x&&_)=true;rw[hx];rfl
 have sy:SeqAt.shaped (.str y)=true:=by unfold SeqAt.shaped;show(PyData.strOk y&&_)=true;rw[hy];rfl
 have sz:SeqAt.shaped (.str z)=true:=by unfold SeqAt.shaped;show(PyData.strOk z&&_)=true;rw[hz];rfl
 simp[j5,aN,toD,aW,sx,sy,sz,fP,PyData.eqv]
theorem FY{h:VH}{a b:Int}{y z:Str}(hy:PyData.strOk y)(hz:PyData.strOk z):j5 h (.tup [.int a,.int b]) (.tup [.str y,.str z])=aB false:=by
 have sy:SeqAt.shaped (.str y)=true:=by unfold SeqAt.shaped;show(PyData.strOk y&&_)=true;rw[hy];rfl
 have sz:SeqAt.shaped (.str z)=true:=by unfold SeqAt.shaped;show(PyData.strOk z&&_)=true;rw[hz];rfl
 have st:SeqAt.shaped (.tuple [.int a,.int b])=true:=rfl;simp[j5,aN,toD,aW,sy,sz,st,fP,PyData.eqv]
noncomputable def o5:E:=(.or (.and (.cmp .eq (.var 1) (.cst (.int (0)))) (.cmp .rD (.var 5) (.tup (.cons (.cst (.str aP)) (.cons (.cst (.str cH)) .nil))))) (.and (.cmp .eq (.var 1) (.op .sub (.var 2) (.cst (.int (1))))) (.cmp .rD (.var 5) (.tup (.cons (.cst (.str aP)) (.cons (.cst (.str cC)) .nil))))))
noncomputable def sM:E:=(.idx (.lst (.cons (.cst (.str cH)) (.cons (.cst (.str cC)) (.cons (.cst (.str aP)) .nil)))) (.bi .min (.cons (.op .add (.bi .int (.cons (.cmp .gt (.var 1) (.cst (.int (0)))) .nil)) (.op .mul (.cst (.int (2))) (.bi .int (.cons (.cmp .eq (.var 2) (.cst (.int (1)))) .nil)))) (.cons (.cst (.int (2))) .nil))))
noncomputable def iP:S:=(.seq (.ite o5 (.seq (.ret sM) .skip) .skip) (.seq (.ret (.var 5)) .skip))
section
variable{F:Nat->Option Fn}(C:CoreP F)
include C
theorem piece{k:Nat}{h:VH}{d c b:Nat}{co wd g:Int}(D:Dk h d c b)(hb:b+5<1000000000)(h0:0<=co)(h1:co<wd)(g0:0<=g)(g1:g<=8) :
 ∃w h',run F (k+4) 21 [.ref d,.int co,.int wd,.int g] h=.ok w h'/\fY w co wd g=true/\Dk h' d c (b+5)/\bD h h' d c:=by
 rw[cA C.Zp rfl];have D0:Dk ⟨h.n,h.n,h.os⟩ d c b:=D.lo;have tail:∀(w5:W)(eE:Int)(h3:VH),Raw g w5->∃w h4,exs (run F (k+3)) iP
  [aB (.ref d),aB (.int co),aB (.int wd),aB (.int g),aB (.int eE),aB w5] h3=.ok (.rt w) h4/\fY w co wd g=true/\(h4=h3\/∃o,h4=h3.new o):=by
  intro w5 eE h3 R;have two:nu 2=true:=yP (by decide) (by decide);have i0:cz [W.str cH,.str cC,.str aP] 0=aB (.str cH):=rfl;have i1:cz [W.str cH,.str cC,.str aP] 1=aB (.str cC):=rfl;have i2:cz [W.str cH,.str cC,.str aP] 2=aB (.str aP):=rfl;have eC:∀(b1 b2:Bool),j5 h3 w5 (.tup [.str aP,.str cH])=aB b1->j5 h3 w5 (.tup [.str aP,.str cC])=aB b2->ev (run F (k+3)) o5 [aB (.ref d),aB (.int co),aB (.int wd),aB (.int g),aB (.int eE),aB w5] h3=.ok (.bl ((decide (co=0) && !b1)|| (decide (co=wd-1) && !b2))) h3:=by intro b1 b2 n1 n2;refine Zo (Ck ?_ ?_) (Ck ?_ ?_);simp only[ev,i6,ir,jg,aR,aD,aQ,iN,dO];simp[ev,aQ,n1];simp only[ev,i6,ir,jg,aR,aD,aQ,iN,dO,ck,eF];simp[ev,aQ,n2]
  have o8:∀(b1 b2:Bool),j5 h3 w5 (.tup [.str aP,.str cH])=aB b1->j5 h3 w5 (.tup [.str aP,.str cC])=aB b2->(co≠0\/b1=true)->(co≠wd-1\/b2=true)->fY w5 co wd g=true->∃w h4,exs (run F (k+3)) iP
   [aB (.ref d),aB (.int co),aB (.int wd),aB (.int g),aB (.int eE),aB w5] h3=.ok (.rt w) h4/\fY w co wd g=true/\(h4=h3\/∃o,h4=h3.new o):=by
   intro b1 b2 n1 n2 o1 o2 hm;refine⟨w5,h3,?_,hm,.inl rfl⟩;have cond:=eC b1 b2 n1 n2;rw[show((decide (co=0) && !b1)|| (decide (co=wd-1) && !b2))=false by rcases o1 with z|z<;>rcases o2 with z'|z'<;>simp[z,z']]at cond;unfold iP;rw[exs,exs,cond,aD];simp[exs,ev]
  have sN:∀(b1 b2:Bool),j5 h3 w5 (.tup [.str aP,.str cH])=aB b1->j5 h3 w5 (.tup [.str aP,.str cC])=aB b2->((co=0/\b1=false)\/(co=wd-1/\b2=false))->∃w h4,exs (run F (k+3)) iP
   [aB (.ref d),aB (.int co),aB (.int wd),aB (.int g),aB (.int eE),aB w5] h3=.ok (.rt w) h4/\fY w co wd g=true/\(h4=h3\/∃o,h4=h3.new o):=by
   intro b1 b2 n1 n2 o;have cond:ev (run F (k+3)) o5 [aB (.ref d),aB (.int co),aB (.int wd),aB (.int g),aB (.int eE),aB w5] h3=.ok (.bl true) h3:=by rw[eC b1 b2 n1 n2,show((decide (co=0) && !b1)|| (decide (co=wd-1) && !b2))=true by rcases o with⟨z,z'⟩|⟨z,z'⟩<;>simp[z,z']]
   have r1:∀(x:Str)(j:Int),(if(2:Int)< (if 0<co then 1 else 0)+2* (if wd=1 then 1 else 0)then 2 else(if 0<co then 1 else 0)+2* (if wd=1 then 1 else 0))=j->cz [W.str cH,.str cC,.str aP] j=aB (.str x)->ev (run F (k+3)) sM [aB (.ref d),aB (.int co),aB (.int wd),aB (.int g),aB (.int eE),aB w5] h3=.ok (.str x) (h3.new (.lst [W.str cH,.str cC,.str aP])):=by intro x j hj ha;have hg:=cY (h:=h3) (o:=.lst [W.str cH,.str cC,.str aP]);by_cases c0:0<co<;>by_cases c1:wd=1<;>simp[c0,c1]at hj<;>subst hj<;>simp[sM,ev,aQ,fJ,iN,ck,eF,two,gT,jE,kP,bx,hg,ha,c0,c1]
   have fin:∀x:Str,ev (run F (k+3)) sM [aB (.ref d),aB (.int co),aB (.int wd),aB (.int g),aB (.int eE),aB w5] h3=.ok (.str x) (h3.new (.lst [W.str cH,.str cC,.str aP]))->fY (.str x) co wd g=true->
    ∃w h4,exs (run F (k+3)) iP [aB (.ref d),aB (.int co),aB (.int wd),aB (.int g),aB (.int eE),aB w5] h3=.ok (.rt w) h4/\fY w co wd g=true/\(h4=h3\/∃o,h4=h3.new o):=
    λx e hm=>⟨.str x,h3.new (.lst [W.str cH,.str cC,.str aP]),by simp only[iP,exs,cond,aD,e],hm,.inr ⟨_,rfl⟩⟩
   by_cases w1:wd=1;exact fin aP (r1 aP 2 (by rw[if_neg (by lia:¬0<co)];simp[w1]) i2) O2;by_cases c0:co=0;exact fin cH (r1 cH 0 (by rw[if_neg (by lia:¬0<co)];simp[w1]) i0) (O4 (by lia));exact fin cC (r1 cC 1 (by rw[if_pos (by lia:0<co)];simp[w1]) i1) (O3 (by lia))
  have d1:(aP==cC)=false:=by decide +kernel
  have d2:(cH==cC)=false:=by decide +kernel
  have d3:(aP==cH)=false:=by decide +kernel
  have d4:(cC==cH)=false:=by decide +kernel
  have d5:(aP==sX)=false:=by decide +kernel
  have d6:(cH==sX)=false:=by decide +kernel
  have d7:(cC==sX)=false:=by decide +kernel
  have k1:PyData.strOk aP=true:=by decide +kernel
  have k2:PyData.strOk cC=true:=by decide +kernel
  have k3:PyData.strOk cH=true:=by decide +kernel
  have k4:PyData.strOk sX=true:=by decide +kernel
  cases R with
  |dot=>exact o8 true true (by rw[lU k1 k1 k3];simp) (by rw[lU k1 k1 k2];simp) (.inr rfl) (.inr rfl) O2
  |lt=>
   by_cases c0:co=0;exact sN false true (by rw[lU k2 k1 k3,d1,d2];rfl) (by rw[lU k2 k1 k2];simp) (.inl ⟨c0,rfl⟩);exact o8 false true (by rw[lU k2 k1 k3,d1,d2];rfl) (by rw[lU k2 k1 k2];simp) (.inl c0) (.inr rfl) (O3 (by lia))
  |gt=>
   by_cases c0:co=wd-1;exact sN true false (by rw[lU k3 k1 k3];simp) (by rw[lU k3 k1 k2,d3,d4];rfl) (.inr ⟨c0,rfl⟩);exact o8 true false (by rw[lU k3 k1 k3];simp) (by rw[lU k3 k1 k2,d3,d4];rfl) (.inr rfl) (.inl c0) (O4 (by lia))
  |x=>
   by_cases c0:co=0\/co=wd-1;exact sN false false (by rw[lU k4 k1 k3,d5,d6];rfl) (by rw[lU k4 k1 k2,d5,d7];rfl) (c0.elim (λz=>.inl ⟨z,rfl⟩) λz=>.inr ⟨z,rfl⟩);exact o8 false false (by rw[lU k4 k1 k3,d5,d6];rfl) (by rw[lU k4 k1 k2,d5,d7];rfl) (.inl (by lia)) (.inl (by lia)) (Cn (by lia) (by lia))
  |rk a0 a1 b0 b1=>
   by_cases c0:co=0\/co=wd-1;exact sN false false (FY k1 k3) (FY k1 k2) (c0.elim (λz=>.inl ⟨z,rfl⟩) λz=>.inr ⟨z,rfl⟩);exact o8 false false (FY k1 k3) (FY k1 k2) (.inl (by lia)) (.inl (by lia)) (Zs a0 a1 b0 b1 (by lia) (by lia))
 obtain⟨eE,jv,e1,l0,l1,D1,K1⟩:=take C.toCoreD (k:=k) (m:=10) D0 (by lia) (by decide) (by decide);have done:∀(w5:W)(h3:VH),Raw g w5->Dk h3 d c (b+5)->bD ⟨h.n,h.n,h.os⟩ h3 d c->exs (run F (k+3)) oU.body [aB (.ref d),aB (.int co),aB (.int wd),aB (.int g),aC,aC] ⟨h.n,h.n,h.os⟩=exs (run F (k+3)) iP [aB (.ref d),aB (.int co),aB (.int wd),aB (.int g),aB (.int eE),aB w5] h3->
  ∃w h',fin h (exs (run F (k+3)) oU.body [aB (.ref d),aB (.int co),aB (.int wd),aB (.int g),aC,aC] ⟨h.n,h.n,h.os⟩)=.ok w h'/\fY w co wd g=true/\Dk h' d c (b+5)/\bD h h' d c:=by
  intro w5 h3 R D3 K3 e;obtain⟨w,h4,e4,hm,hh⟩:=tail w5 eE h3 R;have D4:Dk h4 d c (b+5)/\bD ⟨h.n,h.n,h.os⟩ h4 d c:=by rcases hh with rfl|⟨o,rfl⟩;exact⟨D3,K3⟩;exact⟨D3.new,K3.new⟩
  obtain⟨h5,e5,D5,K5⟩:=sL (cl:=run F (k+3)) (fl:=.nx []) (e.trans e4) (.inr ⟨b,D⟩) D4.1 D4.2;exact⟨w,h5,e5,hm,D5,K5⟩
 have FZ:=cY (h:=jv) (o:=.lst [W.str aP,.str cC,.str cH,.str sX,.str aP,.str aP]);have two:∀(x:Str)(j:Int),(if(5:Int)<eE then 5 else eE)=j->cz [W.str aP,.str cC,.str cH,.str sX,.str aP,.str aP] j=aB (.str x)->∀rest:S,exs (run F (k+3)) (.seq (.set 4 (.call 5 (.cons (.var 0) (.cons (.cst (.int (10))) .nil)))) (.seq (.set 5 (.idx (.lst (.cons (.cst (.str aP)) (.cons (.cst (.str cC)) (.cons (.cst (.str cH)) (.cons (.cst (.str sX)) (.cons (.cst (.str aP)) (.cons (.cst (.str aP)) .nil))))))) (.bi .min (.cons (.var 4) (.cons (.cst (.int (5))) .nil))))) rest)) [aB (.ref d),aB (.int co),aB (.int wd),aB (.int g),aC,aC] ⟨h.n,h.n,h.os⟩ =
  exs (run F (k+3)) rest [aB (.ref d),aB (.int co),aB (.int wd),aB (.int g),aB (.int eE),aB (.str x)] (jv.new (.lst [W.str aP,.str cC,.str cH,.str sX,.str aP,.str aP])):=by
  intro x j hj ha rest;refine(aT (ρ':=[aB (.ref d),aB (.int co),aB (.int wd),aB (.int g),aB (.int eE),aC]) (h':=jv) (by simp[exs,ev,e1])).trans ?_;refine aT ?_;by_cases q:(5:Int)<eE;rw[if_pos q]at hj;subst hj;simp[exs,ev,gT,kP,q,bx,FZ,ha];rw[if_neg q]at hj;subst hj;simp[exs,ev,gT,kP,q,bx,FZ,ha]
 have low:∀(x:Str),eE<=3->cz [W.str aP,.str cC,.str cH,.str sX,.str aP,.str aP] eE=aB (.str x)->Raw g (.str x)->_:=λx hl ha R=>done (.str x) (jv.new (.lst [W.str aP,.str cC,.str cH,.str sX,.str aP,.str aP])) R (D1.new.mono (by lia)) K1.new (by
  refine(two x eE (if_neg (by lia)) ha _).trans ?_;have n1:¬(4<eE):=by lia
  have n2:¬(eE=4):=by lia
  refine(aT (ρ':=[aB (.ref d),aB (.int co),aB (.int wd),aB (.int g),aB (.int eE),aB (.str x)]) (h':=jv.new (.lst [W.str aP,.str cC,.str cH,.str sX,.str aP,.str aP])) (by simp[exs,ev,aQ,fJ,n1])).trans ?_;refine(aT (ρ':=[aB (.ref d),aB (.int co),aB (.int wd),aB (.int g),aB (.int eE),aB (.str x)]) (h':=jv.new (.lst [W.str aP,.str cC,.str cH,.str sX,.str aP,.str aP])) (by simp[exs,ev,aQ,iN,n2])).trans ?_;rfl)
 by_cases l4:eE<=3;have:eE=0\/eE=1\/eE=2\/eE=3:=by lia
 rcases this with z|z|z|z;exact low aP l4 (by rw[z];rfl) .dot;exact low cC l4 (by rw[z];rfl) .lt;exact low cH l4 (by rw[z];rfl) .gt;exact low sX l4 (by rw[z];rfl) .x;by_cases l5:eE=4
 ·-- a blind place,or nothing
  obtain⟨r4,h4,e4,_,_,D4,K4⟩:=take C.toCoreD (k:=k) (m:=4) (D1.new (o:=.lst [W.str aP,.str cC,.str cH,.str sX,.str aP,.str aP])) (by lia) (by decide) (by decide);have n1:¬(4<eE):=by lia
  have s3:∀rest:S,exs (run F (k+3)) (.seq (.ite (.and (.cmp .gt (.var 4) (.cst (.int (4)))) (.cmp .gt (.var 3) (.cst (.int (0))))) (.seq (.set 5 (.tup (.cons (.call 5 (.cons (.var 0) (.cons (.var 3) .nil))) (.cons (.call 5 (.cons (.var 0) (.cons (.cst (.int (2))) .nil))) .nil)))) .skip) .skip) rest) [aB (.ref d),aB (.int co),aB (.int wd),aB (.int g),aB (.int eE),aB (.str aP)] (jv.new (.lst [W.str aP,.str cC,.str cH,.str sX,.str aP,.str aP]))=exs (run F (k+3)) rest [aB (.ref d),aB (.int co),aB (.int wd),aB (.int g),aB (.int eE),aB (.str aP)] (jv.new (.lst [W.str aP,.str cC,.str cH,.str sX,.str aP,.str aP])):=λrest=>aT (by simp[exs,ev,aQ,fJ,n1]);by_cases r0:r4=0;obtain⟨h5,e5,D5,K5⟩:=sL (cl:=run F (k+3)) (fl:=.nx []) (w:=.str sS) (body:=oU.body) (ρ:=[aB (.ref d),aB (.int co),aB (.int wd),aB (.int g),aC,aC]) (F:=F) (k:=k+3) (h:=h) (h':=h4) (b:=b+5) ((two aP 4 (by rw[l5];rfl) rfl _).trans ((s3 _).trans (cQ (by simp[exs,ev,aQ,iN,l5,e4,r0])))) (.inr ⟨b,D⟩) (D4.mono (by lia)) (K1.new.trans K4);exact⟨_,h5,e5,Cm,D5,K5⟩;exact done (.str aP) h4 .dot (D4.mono (by lia)) (K1.new.trans K4) ((two aP 4 (by rw[l5];rfl) rfl _).trans ((s3 _).trans (aT (by simp[exs,ev,aQ,iN,l5,e4,r0]))))
 ·-- a mZ,if there are groups
  have n1:4<eE:=by lia
  have n2:¬(eE=4):=by lia
  have ha:∃j:Int,(if(5:Int)<eE then 5 else eE)=j/\cz [W.str aP,.str cC,.str cH,.str sX,.str aP,.str aP] j=aB (.str aP):=⟨5,by split<;>lia,rfl⟩
  obtain⟨j,hj,ha⟩:=ha;by_cases hg:0<g;obtain⟨ra,h4,e4,a0,a1,D4,K4⟩:=take C.toCoreD (k:=k) (m:=g) (D1.new (o:=.lst [W.str aP,.str cC,.str cH,.str sX,.str aP,.str aP])) (by lia) hg (by lia);obtain⟨rb,h5,e5,b0,b1,D5,K5⟩:=take C.toCoreD (k:=k) (m:=2) D4 (by lia) (by decide) (by decide);exact done (.tup [.int ra,.int rb]) h5 (.rk a0 a1 b0 b1) (D5.mono (by lia)) ((K1.new.trans K4).trans K5) ((two aP j hj ha _).trans ((aT (ρ':=[aB (.ref d),aB (.int co),aB (.int wd),aB (.int g),aB (.int eE),aB (.tup [.int ra,.int rb])]) (h':=h5) (by simp[exs,ev,aQ,fJ,n1,hg,e4,e5])).trans (aT (by simp[exs,ev,aQ,iN,n2]))));exact done (.str aP) (jv.new (.lst [W.str aP,.str cC,.str cH,.str sX,.str aP,.str aP])) .dot (D1.new.mono (by lia)) K1.new ((two aP j hj ha _).trans ((aT (ρ':=[aB (.ref d),aB (.int co),aB (.int wd),aB (.int g),aB (.int eE),aB (.str aP)]) (h':=jv.new (.lst [W.str aP,.str cC,.str cH,.str sX,.str aP,.str aP])) (by simp[exs,ev,aQ,fJ,n1,hg])).trans (aT (by simp[exs,ev,aQ,iN,n2]))))
end
noncomputable def sO(P:Int->W->Prop):Int->List W->Prop|_,[]=>True|a,w::r=>P a w/\sO P (a+1) r
theorem Co{P:W->Prop}:∀{ws:List W} {a:Int},sO (λ_ w=>P w) a ws->∀w∈ws,P w
 |[],_,_,w,h=>by cases h
 |x::r,a,⟨h1,h2⟩,w,h=>by
  rcases eV.mp h with rfl|h;exact h1;exact Co h2 w h
theorem yQ{cl:Call}{P:Int->W->Prop}{e:E}{tl:En}{d c m lim:Nat}(hs:∀(i:Int) (h:VH) (b:Nat),0<=i->i<lim->Dk h d c b->b+m<1000000000->∃w h',ev cl e (aB (.int i)::tl) h=.ok w h'/\P i w/\Dk h' d c (b+m)/\bD h h' d c) :
 ∀(n:Nat)(a:Int)(x:Option W)(h:VH)(b:Nat),0<=a->a+n<=lim->Dk h d c b->b+m*n<1000000000->
  ∃ws h',je (bz (.one 0)) (λ_ h=>.ok (.bl true) h) (ev cl e) (dY a n) (x::tl) h=.ok ws h'/\sO P a ws/\ws.length=n/\Dk h' d c (b+m*n)/\bD h h' d c
 |0,a,x,h,b,_,_,D,_=>⟨[],h,rfl,trivial,rfl,by simpa using D,.refl⟩
 |n+1,a,x,h,b,ha,hl,D,hb=>by
  have e1:m* (n+1)=m*n+m:=Nat.mul_succ m n;obtain⟨w,h1,e2,p1,D1,K1⟩:=hs a h b ha (by lia) D (by lia);obtain⟨ws,h2,e3,p2,l2,D2,K2⟩:=yQ hs n (a+1) (aB (.int a)) h1 (b+m) (by lia) (by lia) D1 (by lia);refine⟨w::ws,h2,?_,⟨p1,p2⟩,by rw[dG,l2],D2.mono (by lia),K1.trans K2⟩;simp only[dY,je,bz,List.set,ev,aD,e2,e3]
theorem uL{n:Nat}(h:n<=1000000):Nat.ble n big=true:=qA.mpr (iY h (by decide))
theorem O5{cl:Call}{a:E}{ρ:En}{h h1 h2:VH}{n ow:Nat}{ix:List Nat}{e:E}{ys:List W}(ea:ev cl a ρ h=.ok (.tup [.int n]) h1)(hn:n<1000000)(el:je (bz (.one 0)) (λ_ h=>.ok (.bl true) h) (ev cl e) (dY 0 n) (inner ow ix ρ) h1=.ok ys h2)(hy:ys.length<=1000000) :
 ev cl (.lc .fj a (.one 0) ow ix (.cst (.bl true)) e) ρ h=.ok (.ref h2.n) (h2.new (.lst ys)):=by
 have l:=YX (n:=n) (tg:=bz (.one 0)) (c:=λ_ h=>.ok (.bl true) h) (e:=ev cl e) (ρ:=inner ow ix ρ) (h:=h1) hn;rw[el]at l;have q:ev cl (.lc .fj a (.one 0) ow ix (.cst (.bl true)) e) ρ h=(ev cl a ρ h).bind λx h=>(eG (bw .fj x) (bz (.one 0)) (ev cl (.cst (.bl true))) (ev cl e) fuel 0 (inner ow ix ρ) h []).bind λys h=>if Nat.ble ys.length big then .ok (.ref h.n) (h.new (.lst ys))else .no:=by rw[ev]
 rw[q,ea,aD];show(eG (bw .fj (.tup [.int n])) (bz (.one 0)) (λ_ h=>.ok (.bl true) h) (ev cl e) fuel 0 (inner ow ix ρ) h1 []).bind _=_;rw[l,aD,if_pos (uL hy)]
theorem O6{cl:Call}{x:E}{ρ:En}{h h1:VH}{i:Nat}{ys:List W}(e:ev cl x ρ h=.ok (.ref i) h1)(g:h1.get i=aB (.lst ys)):ev cl (.bi .tuple (.cons x .nil)) ρ h=.ok (.tup ys) h1:=by simp only[ev,e,aD,gT,om,aN,g,dO,aR]
theorem F0{cl:Call}{a:E}{ρ:En}{h h1 h2:VH}{n ow:Nat}{ix:List Nat}{e:E}{ys:List W}(ea:ev cl a ρ h=.ok (.tup [.int n]) h1)(hn:n<1000000)(el:je (bz (.one 0)) (λ_ h=>.ok (.bl true) h) (ev cl e) (dY 0 n) (inner ow ix ρ) h1=.ok ys h2)(hy:ys.length<=1000000) :
 ev cl (.bi .tuple (.cons (.lc .fj a (.one 0) ow ix (.cst (.bl true)) e) .nil)) ρ h=.ok (.tup ys) (h2.new (.lst ys)):=O6 (O5 ea hn el hy) cY
theorem O7{wd g:Int}:∀{ws:List W} {c:Int},sO (λi w=>fY w i wd g=true) c ws->dh wd g c ws|[],_,_=>trivial|_::_,_,⟨h1,h2⟩=>⟨h1,O7 h2⟩
section
variable{F:Nat->Option Fn}(C:CoreP F)
include C
theorem row{k:Nat}{h:VH}{d c b:Nat}{wd:Nat}{g:Int}(D:Dk h d c b)(hb:b+200<1000000000)(h1:wd<=40)(g0:0<=g)(g1:g<=8) :
 ∃ws h',run F (k+5) 25 [.ref d,.int wd,.int g] h=.ok (.tup ws) h'/\ws.length=wd/\dh wd g 0 ws/\Dk h' d c (b+200)/\bD h h' d c:=by
 rw[cA C.Zr rfl];have D0:Dk ⟨h.n,h.n,h.os⟩ d c b:=D.lo;obtain⟨ws,h2,e2,p2,l2,D2,K2⟩:=yQ (cl:=run F (k+4)) (P:=λi w=>fY w i wd g) (e:=FA) (tl:=[aB (.ref d),aB (.int g),aB (.int wd)]) (m:=5) (lim:=wd) (λi h b h0 hl D hb=>by
  obtain⟨w,h',e,a1,a2,a3⟩:=piece C (k:=k) (co:=i) (wd:=wd) (g:=g) D hb h0 hl g0 g1;exact⟨w,h',by simp[FA,ev,e],a1,a2,a3⟩) wd 0 aC ⟨h.n,h.n,h.os⟩ b (by lia) (by lia) D0 (by lia)
 have e3:=F0 (cl:=run F (k+4)) (a:=.cons (.var 1) .nil) (ρ:=[aB (.ref d),aB (.int wd),aB (.int g)]) (h:=⟨h.n,h.n,h.os⟩) (ow:=1) (ix:=[0,2,1]) (e:=FA) (by simp[ev]) (by lia) e2 (by lia);obtain⟨h5,e5,D5,K5⟩:=sL (cl:=run F (k+4)) (fl:=.nx []) (w:=.tup ws) (body:=rR.body) (ρ:=[aB (.ref d),aB (.int wd),aB (.int g)]) (F:=F) (k:=k+4) (h:=h) (h':=h2.new (.lst ws)) (by simp only[rR,exs,e3,aD]) (.inr ⟨b,D⟩) (D2.new.mono (show _<=b+200 by lia)) K2.new;exact⟨ws,h5,e5,l2,O7 p2,D5,K5⟩
theorem Zt{k:Nat}{h:VH}{d c b:Nat}{nf:Int}(D:Dk h d c b)(hb:b+5<1000000000)(n0:1<=nf)(n1:nf<=4) :
 ∃w h',run F (k+4) 23 [.ref d,.int nf] h=.ok w h'/\door w nf=true/\Dk h' d c (b+5)/\bD h h' d c:=by
 rw[cA C.Zq rfl];have D0:Dk ⟨h.n,h.n,h.os⟩ d c b:=D.lo;obtain⟨r1,h1,e1,a1,b1,D1,K1⟩:=take C.toCoreD (k:=k) (m:=3) D0 (by lia) (by decide) (by decide);obtain⟨r2,h2,e2,a2,b2,D2,K2⟩:=take C.toCoreD (k:=k) (m:=100) D1 (by lia) (by decide) (by decide);have hg:=cY (h:=h2) (o:=.lst [.int r1,.int r2]);obtain⟨r3,h3,e3,a3,b3,D3,K3⟩:=take C.toCoreD (k:=k) (m:=4) (D2.new (o:=.lst [.int r1,.int r2])) (by lia) (by decide) (by decide);obtain⟨r4,h4,e4,a4,b4,D4,K4⟩:=take C.toCoreD (k:=k) (m:=nf) D3 (by lia) (by lia) (by lia);obtain⟨r5,h5,e5,a5,b5,D5,K5⟩:=take C.toCoreD (k:=k) (m:=8) D4 (by lia) (by decide) (by decide);obtain⟨_,ns,cells,p,q,gd,gc,_⟩:=D2;have O8:h3.get h2.n=aB (.lst [.int r1,.int r2]):=K3.get _ _ (mj (cK gd)) (mj (cK gc)) hg;have KK:bD ⟨h.n,h.n,h.os⟩ h5 d c:=((((K1.trans K2).new (o:=.lst [.int r1,.int r2])).trans K3).trans K4).trans K5;have nm:∃x:Int,0<=x/\x<=99/\exs (run F (k+3)) (.set 2 (.idx (.lst (.cons (.call 5 (.cons (.var 0) (.cons (.cst (.int (3))) .nil))) (.cons (.call 5 (.cons (.var 0) (.cons (.cst (.int (100))) .nil))) .nil))) (.bi .int (.cons (.cmp .eq (.call 5 (.cons (.var 0) (.cons (.cst (.int (4))) .nil))) (.cst (.int (0)))) .nil)))) [aB (.ref d),aB (.int nf),aC,aC] ⟨h.n,h.n,h.os⟩=.ok (.nx [aB (.ref d),aB (.int nf),aB (.int x),aC]) h3:=by have i0:cz [W.int r1,.int r2] 0=aB (.int r1):=rfl;have i1:cz [W.int r1,.int r2] 1=aB (.int r2):=rfl;by_cases z:r3=0;exact⟨r2,a2,by lia,by simp[exs,ev,e1,e2,e3,aQ,iN,z,gT,jE,bx,O8,i1]⟩;exact⟨r1,a1,by lia,by simp[exs,ev,e1,e2,e3,aQ,iN,z,gT,jE,bx,O8,i0]⟩
 obtain⟨x,x0,x1,ex⟩:=nm;have e6:exs (run F (k+3)) (.set 3 (.call 5 (.cons (.var 0) (.cons (.var 1) .nil)))) [aB (.ref d),aB (.int nf),aB (.int x),aC] h3=.ok (.nx [aB (.ref d),aB (.int nf),aB (.int x),aB (.int r4)]) h4:=by simp[exs,ev,e4]
 have hd:∀w:W,w=.tup [.int x,.aI]\/w=.tup [.int x,.int r4]->door w nf=true:=by
  intro w hw;rcases hw with rfl|rfl
  simp[door,within,sI,bB,x0,x1];simp only[door,within,sI,bB,bM,gH,Bool.false_or];lia
 have body:∃w,exs (run F (k+3)) wB.body [aB (.ref d),aB (.int nf),aC,aC] ⟨h.n,h.n,h.os⟩=.ok (.rt w) h5/\door w nf=true:=by by_cases z:r5=0;exact⟨.tup [.int x,.aI],(aT ex).trans ((aT e6).trans (by simp[exs,ev,e5,aQ,iN,z])),hd _ (.inl rfl)⟩;exact⟨.tup [.int x,.int r4],(aT ex).trans ((aT e6).trans (by simp[exs,ev,e5,aQ,iN,z])),hd _ (.inr rfl)⟩
 obtain⟨w,eb,hw⟩:=body;obtain⟨h6,e7,D6,K6⟩:=sL (cl:=run F (k+3)) (fl:=.nx []) eb (.inr ⟨b,D⟩) (D5.mono (show _<=b+5 by lia)) KK;exact⟨w,h6,e7,hw,D6,K6⟩
theorem Zu{k:Nat}{d c wd n b:Nat}{g:Int}{h:VH}{x:Option W}(D:Dk h d c b)(hb:b+200*n<1000000000)(h1:wd<=40)(g0:0<=g)(g1:g<=8) :
 ∃(rs:List (List W)) (h':VH),je (bz (.one 0)) (λ_ h=>.ok (.bl true) h) (ev (run F (k+5)) (.call 25 (.cons (.var 1) (.cons (.var 3) (.cons (.var 2) .nil))))) (dY 0 n) [x,aB (.ref d),aB (.int g),aB (.int wd)] h=.ok (rs.map .tup) h'/\rs.length=n/\(∀r∈rs,(r.length:Int)=wd/\dh wd g 0 r)/\Dk h' d c (b+200*n)/\bD h h' d c:=by
 obtain⟨ws,h',e,p,l,D',K'⟩:=yQ (cl:=run F (k+5)) (P:=λ_ w=>∃r,w=.tup r/\(r.length:Int)=wd/\dh wd g 0 r) (e:=.call 25 (.cons (.var 1) (.cons (.var 3) (.cons (.var 2) .nil)))) (tl:=[aB (.ref d),aB (.int g),aB (.int wd)]) (m:=200) (lim:=n) (λi h b _ _ D hb=>by
  obtain⟨ws,h',e,a1,a2,a3,a4⟩:=row C (k:=k) (wd:=wd) (g:=g) D hb h1 g0 g1;exact⟨.tup ws,h',by simp[ev,e],⟨ws,rfl,by lia,a2⟩,a3,a4⟩) n 0 x h b (by lia) (by lia) D hb
 replace p:=Co p;have hr:∃rs:List (List W),ws=rs.map .tup/\∀r∈rs,(r.length:Int)=wd/\dh wd g 0 r:=by
  clear e l;induction ws with
  |nil=>exact⟨[],rfl,λr hr=>by cases hr⟩
  |cons w ws ih=>
   obtain⟨rs,e1,e2⟩:=ih λw hw=>p w (eU _ hw);obtain⟨r,e3,e4⟩:=p w eX;refine⟨r::rs,by rw[e3,e1];rfl,λq hq=>?_⟩;rcases eV.mp hq with rfl|hq;exact e4;exact e2 q hq
 obtain⟨rs,rfl,hrs⟩:=hr;exact⟨rs,h',e,by rw[<-l,bF],hrs,D',K'⟩
theorem Zv{k:Nat}{d c wd n b:Nat}{h:VH}{x:Option W}(D:Dk h d c b)(hb:b+1*n<1000000000)(h0:1<=wd)(h1:wd<=40) :
 ∃(fs:List W) (h':VH),je (bz (.one 0)) (λ_ h=>.ok (.bl true) h) (ev (run F (k+3)) (.call 5 (.cons (.var 1) (.cons (.var 2) .nil)))) (dY 0 n) [x,aB (.ref d),aB (.int wd)] h=.ok fs h'/\fs.length=n/\(∀f∈fs,within f 0 ((wd:Int)-1)=true)/\Dk h' d c (b+1*n)/\bD h h' d c:=by
 obtain⟨ws,h',e,p,l,D',K'⟩:=yQ (cl:=run F (k+3)) (P:=λ_ w=>within w 0 ((wd:Int)-1)) (e:=.call 5 (.cons (.var 1) (.cons (.var 2) .nil))) (tl:=[aB (.ref d),aB (.int wd)]) (m:=1) (lim:=n) (λi h b _ _ D hb=>by
  obtain⟨r,h',e,a1,a2,a3,a4⟩:=take C.toCoreD (k:=k) (m:=wd) D (by lia) (by lia) (by lia);exact⟨.int r,h',by simp[ev,e],by simp only[within,bM,gH];lia,a3,a4⟩) n 0 x h b (by lia) (by lia) D hb
 exact⟨ws,h',e,l,Co p,D',K'⟩
theorem Zw{k:Nat}{d c n b:Nat}{h:VH}{x:Option W}{fs:List W}(D:Dk h d c b)(hb:b+5*n<1000000000)(h0:1<=fs.length)(h1:fs.length<=4) :
 ∃(ds:List W) (h':VH),je (bz (.one 0)) (λ_ h=>.ok (.bl true) h) (ev (run F (k+4)) (.call 23 (.cons (.var 1) (.cons (.bi .len (.cons (.var 2) .nil)) .nil)))) (dY 0 n) [x,aB (.ref d),aB (.tup fs)] h=.ok ds h'/\ds.length=n/\(∀w∈ds,door w fs.length=true)/\Dk h' d c (b+5*n)/\bD h h' d c:=by
 obtain⟨ws,h',e,p,l,D',K'⟩:=yQ (cl:=run F (k+4)) (P:=λ_ w=>door w fs.length) (e:=.call 23 (.cons (.var 1) (.cons (.bi .len (.cons (.var 2) .nil)) .nil))) (tl:=[aB (.ref d),aB (.tup fs)]) (m:=5) (lim:=n) (λi h b _ _ D hb=>by
  obtain⟨w,h',e,a1,a2,a3⟩:=Zt C (k:=k) (nf:=fs.length) D hb (by lia) (by lia);exact⟨w,h',by simp[ev,e,gT,fK,aN],a1,a2,a3⟩) n 0 x h b (by lia) (by lia) D hb
 exact⟨ws,h',e,l,Co p,D',K'⟩
end
structure uM(F:Nat->Option Fn):Prop extends CoreP F where
 Zx:F 26=aB wC
theorem lb{b n k:Nat}(hb:b+n<1000000000)(h:k<=n):b+k<1000000000:=by lia
theorem O9{m:Int}(h:m<=60):m+1<1073741824:=by lia
theorem Pa{t m:Int}(a:0<=t)(b:t<m)(h:m<=40):∃n:Nat,1+t=n/\1<=n/\n<=40/\(n:Int)<=m:=⟨(1+t).toNat,by lia,by lia,by lia,by lia⟩
theorem yR{b c n k m:Nat}(h:n<=m):b+c+k*n<=b+ (c+k*m):=by rw[qz];exact zo (zo (Nat.mul_le_mul_left k h) c) b
section
variable{F:Nat->Option Fn}(C:uM F)
include C
theorem Pb{k:Nat}{h:VH}{d c b:Nat}{mw mr mg:Int}(D:Dk h d c b)(hb:b+13000<1000000000)(w0:1<=mw)(w1:mw<=40)(r0:0<=mr)(r1:mr<=60)(g0:0<=mg)(g1:mg<=8) :
 ∃B h',run F (k+6) 26 [.ref d,.int mw,.int mr,.int mg] h=.ok (Bd.w B) h'/\B.Ok/\B.wd<=mw/\B.gr<=mg/\(B.rows.length:Int)<=mr/\Dk h' d c (b+13000)/\bD h h' d c:=by
 rw[cA C.Zx rfl];have D0:Dk ⟨h.n,h.n,h.os⟩ d c b:=D.lo;obtain⟨t1,h1,e1,a1,b1,D1,K1⟩:=take C.toCoreD (k:=k+2) (m:=mw) D0 (lb (k:=0) hb (by decide)) (Int.lt_of_lt_of_le (by decide) w0) (Int.lt_of_le_of_lt w1 (by decide));obtain⟨wd,Zy,Pc,wR,Zz⟩:=Pa a1 b1 w1;obtain⟨gr,h2,e2,a2,b2,D2,K2⟩:=take C.toCoreD (k:=k+2) (m:=mg+1) D1 (lb (k:=1) hb (by decide)) (Int.lt_add_one_of_le g0) (O9 (xW g1 (by decide)));have b2:=Int.le_of_lt_add_one b2;have g2:=xW b2 g1;obtain⟨t3,h3,e3,a3,b3,D3,K3⟩:=take C.toCoreD (k:=k+2) (m:=mr+1) D2 (lb (k:=2) hb (by decide)) (Int.lt_add_one_of_le r0) (O9 r1);obtain⟨nr,hnr⟩:=kC a3;have Pd:(nr:Int)<=mr:=hnr▸Int.le_of_lt_add_one b3;have Cq:nr<=60:=DR.mp (xW Pd r1);obtain⟨rs,h4,e4,l4,p4,D4,K4⟩:=Zu C.toCoreP (k:=k) (n:=nr) (wd:=wd) (g:=gr) (x:=aC) D3 (pU (yR (c:=3) Cq) (lb hb (by decide))) wR a2 g2;have D4:=D4.mono (yR (c:=3) Cq);have ZC:=D4.new (o:=.lst (rs.map .tup));obtain⟨t5,h5,e5,a5,b5,D5,K5⟩:=take C.toCoreD (k:=k+2) (m:=4) ZC (lb hb (by decide)) (by decide) (by decide);obtain⟨nf,hnf,Pe,_,uN⟩:=Pa a5 b5 (by decide);have uN:=DR.mp uN;obtain⟨fs,h6,e6,l6,p6,D6,K6⟩:=Zv C.toCoreP (k:=k+2) (n:=nf) (wd:=wd) (x:=aC) D5 (pU (yR (c:=12004) uN) (lb hb (by decide))) Pc wR;have D6:=D6.mono (yR (c:=12004) uN);have ZD:=D6.new (o:=.lst fs);obtain⟨ds,h7,e7,l7,p7,D7,K7⟩:=Zw C.toCoreP (k:=k+1) (n:=wd) (fs:=fs) (x:=aC) ZD (pU (yR (c:=12008) wR) (lb hb (by decide))) (l6▸Pe) (l6▸uN);obtain⟨hne,ns,cells,p,q,gd,gc,_⟩:=D4;have gl:(h7.new (.lst ds)).get h4.n=aB (.lst (rs.map .tup)):=by
  have n1:h4.n≠d:=mj (cK gd);have n2:h4.n≠c:=mj (cK gc);have q1:=K5.get h4.n _ n1 n2 cY;have q2:=K6.get h4.n _ n1 n2 q1;have q3:(h6.new (.lst fs)).get h4.n=aB (.lst (rs.map .tup)):=by rw[gE (cK q2)];exact q2
  have q4:=K7.get h4.n _ n1 n2 q3;rw[gE (cK q4)];exact q4
 have s1:exs (run F (k+5)) (.set 4 (.op .add (.cst (.int (1))) (.call 5 (.cons (.var 0) (.cons (.var 1) .nil))))) [aB (.ref d),aB (.int mw),aB (.int mr),aB (.int mg),aC,aC,aC,aC,aC] ⟨h.n,h.n,h.os⟩=.ok (.nx [aB (.ref d),aB (.int mw),aB (.int mr),aB (.int mg),aB (.int wd),aC,aC,aC,aC]) h1:=by simp[exs,ev,e1,ck,eF,Zy]
 have s2:exs (run F (k+5)) (.set 5 (.call 5 (.cons (.var 0) (.cons (.op .add (.var 3) (.cst (.int (1)))) .nil)))) [aB (.ref d),aB (.int mw),aB (.int mr),aB (.int mg),aB (.int wd),aC,aC,aC,aC] h1=.ok (.nx [aB (.ref d),aB (.int mw),aB (.int mr),aB (.int mg),aB (.int wd),aB (.int gr),aC,aC,aC]) h2:=by simp[exs,ev,e2,ck,eF]
 have s3:=O5 (cl:=run F (k+5)) (a:=.cons (.call 5 (.cons (.var 0) (.cons (.op .add (.var 2) (.cst (.int (1)))) .nil))) .nil) (ρ:=[aB (.ref d),aB (.int mw),aB (.int mr),aB (.int mg),aB (.int wd),aB (.int gr),aC,aC,aC]) (h:=h2) (h1:=h3) (n:=nr) (ow:=1) (ix:=[0,5,4]) (by simp[ev,ck,eF,e3,hnr]) (pU Cq (by decide)) e4 (by rw[bF,l4];exact iY Cq (by decide));have s4:=F0 (cl:=run F (k+5)) (a:=.cons (.op .add (.cst (.int (1))) (.call 5 (.cons (.var 0) (.cons (.cst (.int (4))) .nil)))) .nil) (ρ:=[aB (.ref d),aB (.int mw),aB (.int mr),aB (.int mg),aB (.int wd),aB (.int gr),aB (.ref h4.n),aC,aC]) (h:=h4.new (.lst (rs.map .tup))) (h1:=h5) (n:=nf) (ow:=1) (ix:=[0,4]) (by simp[ev,ck,eF,e5,hnf]) (pU uN (by decide)) e6 (by rw[l6];exact iY uN (by decide));have s5:=F0 (cl:=run F (k+5)) (a:=.cons (.var 4) .nil) (ρ:=[aB (.ref d),aB (.int mw),aB (.int mr),aB (.int mg),aB (.int wd),aB (.int gr),aB (.ref h4.n),aB (.tup fs),aC]) (h:=h6.new (.lst fs)) (h1:=h6.new (.lst fs)) (n:=wd) (ow:=1) (ix:=[0,7]) (by simp[ev]) (pU wR (by decide)) e7 (by rw[l7];exact iY wR (by decide));have body:exs (run F (k+5)) wC.body [aB (.ref d),aB (.int mw),aB (.int mr),aB (.int mg),aC,aC,aC,aC,aC] ⟨h.n,h.n,h.os⟩=.ok (.rt (Bd.w ⟨wd,gr,rs,fs,ds⟩)) (h7.new (.lst ds)):=by refine(aT s1).trans ((aT s2).trans ?_);refine(aT (ρ':=[aB (.ref d),aB (.int mw),aB (.int mr),aB (.int mg),aB (.int wd),aB (.int gr),aB (.ref h4.n),aC,aC]) (h':=h4.new (.lst (rs.map .tup))) (by unfold OH;simp only[exs,s3,aD];rfl)).trans ?_;refine(aT (ρ':=[aB (.ref d),aB (.int mw),aB (.int mr),aB (.int mg),aB (.int wd),aB (.int gr),aB (.ref h4.n),aB (.tup fs),aC]) (h':=h6.new (.lst fs)) (by unfold OI;simp only[exs,s4,aD];rfl)).trans ?_;refine(aT (ρ':=[aB (.ref d),aB (.int mw),aB (.int mr),aB (.int mg),aB (.int wd),aB (.int gr),aB (.ref h4.n),aB (.tup fs),aB (.tup ds)]) (h':=h7.new (.lst ds)) (by unfold OJ;simp only[exs,s5,aD];rfl)).trans ?_;simp[exs,ev,gT,om,aN,gl,Bd.w]
 have KK:bD ⟨h.n,h.n,h.os⟩ (h7.new (.lst ds)) d c:=((((((K1.trans K2).trans K3).trans K4).new.trans K5).trans K6).new.trans K7).new;obtain⟨h8,e8,D8,K8⟩:=sL (cl:=run F (k+5)) (fl:=.nx []) body (.inr ⟨b,D⟩) (D7.new.mono (iY (yR (c:=12008) wR) (zo (show _<=13000 by decide) b))) KK;refine⟨⟨wd,gr,rs,fs,ds⟩,h8,e8,⟨DR.mpr Pc,DR.mpr wR,a2,g2,by show rs.length<=60;rw[l4];exact Cq,p4,by show 1<=fs.length;rw[l6];exact Pe,by show fs.length<=4;rw[l6];exact uN,p6,ku _ l7,p7⟩,Zz,b2,by show(rs.length:Int)<=mr;rw[l4];exact Pd,D8,K8⟩
end
structure Gw(h h':VH):Prop where
 le:h.n<=h'.n
 lo:h'.lo=h.lo
 get:∀i o,h.get i=aB o->h'.get i=aB o
theorem ZE{h h':VH}{w:W}{n:Nat}(g:Gw ⟨h.n,h.n,h.os⟩ h')(hw:∀m,W.lt m w):fin h (.ok (.rt w) h')=.ok w h:=cU (by rw[g.lo];exact bq _) (hw _)
theorem F1{n:Nat}(h:n<=1000000):Nat.blt n big=true:=fD.mpr (pU h (by decide))
theorem wU{cl:Call}{i l:Nat}{x:E}{ρ:En}{h h1:VH}{w:W}{acc kU:List W}(ki:ρ[i]?=aB (aB (.ref l)))(g0:h.get l=aB (.lst kU))(e:ev cl x ρ h=.ok w h1)(g:h1.get l=aB (.lst acc))(hl:acc.length<=1000000) :
 ev cl (.mt .append (.var i) (.cons x .nil)) ρ h=.ok .aI (h1.set l (.lst (acc++[w]))):=by
 have hk:vS .append h (.ref l)=true:=by simp only[vS,g0]
 have hm:p9 .append (.ref l) [w] h1=.ok .aI (h1.set l (.lst (acc++[w]))):=by simp only[p9,g];rw[if_pos (F1 hl)]
 simp only[ev,ki,i6,aR,aD,hk,b9,e,hm]
theorem ZF{w:W}{g:Int}(h:mZ w g):∃a b:Int,w=.tup [.int a,.int b]/\0<=a/\a<g/\0<=b/\b<2:=by
 cases w<;>simp only[mZ]at h<;>try(cases h;done)
 rename_i us;rcases us with _|⟨a,_|⟨b,_|_⟩⟩<;>simp at h
 obtain⟨h1,h2⟩:=h;cases a<;>simp[within]at h1;cases b<;>simp[within]at h2;exact⟨_,_,rfl,by lia,by lia,by lia,by lia⟩
theorem F2{w:W}{n:Int}(h:door w n):∃(a:Int) (b:W),w=.tup [.int a,b]/\0<=a/\a<=99/\(b=.aI\/∃i:Int,b=.int i/\0<=i/\i<n):=by
 cases w<;>simp only[door]at h<;>try(cases h;done)
 rename_i us;rcases us with _|⟨a,_|⟨b,_|_⟩⟩<;>simp at h
 obtain⟨h1,h2⟩:=h;cases a<;>simp[within]at h1;unfold sI at h2;cases b<;>simp[within,bB]at h2;exact⟨_,_,rfl,h1.1,h1.2,.inl rfl⟩;exact⟨_,_,rfl,h1.1,h1.2,.inr ⟨_,rfl,by lia,by lia⟩⟩
noncomputable def cu(w:W)(hd:Int)(ls:List Int):Option (Int×List Int×List Int):=match w with|.tup [.int g,.int s]=>aB (if ls.getD g.toNat 0=s then -1 else 1,[g],ls.set g.toNat (1-ls.getD g.toNat 0))|.str x=>if x==sS then aC else if x==sX then aB (hd,[],ls)else if x==aP then aB (0,[],ls)else aB (if x==cC then -1 else 1,[],ls)|_=>aC
noncomputable def bT(r:List W)(c:Int):W:=(r[c.toNat]?).getD .aI
structure Fa where
 cs:List Int
 ts:List Int
 ls:List Int
 st:Bool
noncomputable def aL:List (List W)->Int->Int->List Int->Fa
 |[],_,_,ls=>⟨[],[],ls,false⟩
 |r::rs,c,hd,ls=>match cu (bT r c) hd ls with
  |none=>⟨[],[],ls,true⟩
  |some (d,t,l)=>⟨(c+d):: (aL rs (c+d) d l).cs,t++(aL rs (c+d) d l).ts,(aL rs (c+d) d l).ls,(aL rs (c+d) d l).st⟩
noncomputable def dZ:Int->List Int->Int|c,[]=>c|_,x::r=>dZ x r
noncomputable def dP(ls:List Int):Prop:=∀x∈ls,x=0\/x=1
theorem F3{w:W}{c wd g:Int}(h:fY w c wd g):(w=.str sX/\0<c/\c<wd-1)\/(w=.str cC/\0<c)\/(w=.str cH/\c<wd-1)\/w=.str aP\/w=.str sS\/∃a b:Nat,w=.tup [.int a,.int b]/\(a:Int)<g/\b<2/\0<c/\c<wd-1:=by
 unfold fY at h;split at h;rename_i q;rw[bM,gH,gH]at h;rw[xS]at q;rcases q with q|q
 exact .inl ⟨yO q,h⟩;obtain⟨a,b,rfl,h1,h2,h3,h4⟩:=ZF q;obtain⟨a,rfl⟩:=kC h1;obtain⟨b,rfl⟩:=kC h3;exact .inr (.inr (.inr (.inr (.inr ⟨a,b,rfl,h2,by lia,h⟩))));split at h;rename_i q;exact .inr (.inl ⟨yO q,by simpa using h⟩);split at h;rename_i q;exact .inr (.inr (.inl ⟨yO q,by simpa using h⟩));rw[xS]at h;rcases h with q|q
 exact .inr (.inr (.inr (.inl (yO q))));exact .inr (.inr (.inr (.inr (.inl (yO q)))))
theorem F4{hd:Int}{ls:List Int}:cu (.str sX) hd ls=aB (hd,[],ls):=rfl
theorem F5{hd:Int}{ls:List Int}:cu (.str cC) hd ls=aB (-1,[],ls):=rfl
theorem F6{hd:Int}{ls:List Int}:cu (.str cH) hd ls=aB (1,[],ls):=rfl
theorem F7{hd:Int}{ls:List Int}:cu (.str aP) hd ls=aB (0,[],ls):=rfl
theorem F8{hd:Int}{ls:List Int}:cu (.str sS) hd ls=aC:=rfl
theorem F9{hd:Int}{ls:List Int}{a b:Nat}:cu (.tup [.int a,.int b]) hd ls=aB (if ls.getD a 0=b then -1 else 1,[(a:Int)],ls.set a (1-ls.getD a 0)):=rfl
theorem ZG{ls:List Int}(h:dP ls)(a:Nat):ls.getD a 0=0\/ls.getD a 0=1:=by
 rw[kH];cases q:ls[a]? with|none=>exact .inl rfl|some x=>exact h x (l9 q)
theorem JH{w:W}{c wd g hd:Int}{ls:List Int}(h:fY w c wd g)(c0:0<=c)(c1:c<wd)(h1:-1<=hd)(h2:hd<=1)(b:dP ls){d:Int}{t l:List Int}(e:cu w hd ls=aB (d,t,l)):-1<=d/\d<=1/\0<=c+d/\c+d<wd/\l.length=ls.length/\dP l/\t.length<=1:=by rcases F3 h with⟨rfl,h3,h4⟩|⟨rfl,h3⟩|⟨rfl,h3⟩|rfl|rfl|⟨p,q,rfl,h3,h4,h5,h6⟩;rw[F4]at e;cases e;exact⟨h1,h2,by lia,by lia,rfl,b,by simp⟩;rw[F5]at e;cases e;exact⟨by lia,by lia,by lia,by lia,rfl,b,by simp⟩;rw[F6]at e;cases e;exact⟨by lia,by lia,by lia,by lia,rfl,b,by simp⟩;rw[F7]at e;cases e;exact⟨by lia,by lia,by lia,by lia,rfl,b,by simp⟩;rw[F8]at e;cases e;rw[F9]at e;cases e;refine⟨by split<;>lia,by split<;>lia,by split<;>lia,by split<;>lia,by simp,λx hx=>?_,by simp⟩;rcases List.mem_or_eq_of_mem_set hx with hx|rfl;exact b x hx;rcases ZG b p with q|q<;>rw[q]<;>lia
noncomputable def Cr(wd g:Int)(rs:List (List W)):Prop:=∀r∈rs,(r.length:Int)=wd/\dh wd g 0 r
theorem Pf{wd g:Int}:∀{ws:List W} {c:Int} (i:Nat) {w:W},dh wd g c ws->ws[i]?=aB w->fY w (c+i) wd g=true
 |[],_,_,_,_,e=>by simp at e
 |x::r,c,0,w,⟨h1,h2⟩,e=>by
  simp at e;subst e;simpa using h1
 |x::r,c,i+1,w,⟨h1,h2⟩,e=>by
  have:=Pf i h2 (by simpa using e);rw[show c+ ((i+1:Nat):Int)=c+1+i by push_cast;lia];exact this
theorem yS{wd g c:Int}{r:List W}(h:(r.length:Int)=wd/\dh wd g 0 r)(c0:0<=c)(c1:c<wd):r[c.toNat]?=aB (bT r c)/\fY (bT r c) c wd g=true:=by
 obtain⟨n,rfl⟩:=kC c0;have hn:n<r.length:=by lia
 have e:r[n]?=aB r[n]:=iA hn;have e2:bT r n=r[n]:=by unfold bT;rw[qI,e];rfl
 rw[e2,qI];refine⟨e,?_⟩;have:=Pf n h.2 e;simpa using this
structure Fa.Ok(q:Fa)(wd:Int)(c:Int)(m n:Nat):Prop where
 l1:q.ls.length=n
 l2:dP q.ls
 c1:∀x∈q.cs,0<=x/\x<wd
 c2:q.cs.length<=m
 c3:q.st=false->q.cs.length=m
 c5:q.st=true->q.cs.length<m
 c4:0<=dZ c q.cs/\dZ c q.cs<wd
 t1:q.ts.length<=m
theorem Pg{wd g:Int}:∀(rs:List (List W)) (c hd:Int) (ls:List Int),Cr wd g rs->0<=c->c<wd->-1<=hd->hd<=1->dP ls->(aL rs c hd ls).Ok wd c rs.length ls.length
 |[],c,hd,ls,_,c0,c1,_,_,b=>⟨rfl,b,by simp[aL],by simp[aL],by simp[aL],by simp[aL],⟨c0,c1⟩,by simp[aL]⟩
 |r::rs,c,hd,ls,ok,c0,c1,h1,h2,b=>by
  obtain⟨_,hm⟩:=yS (ok r eX) c0 c1;unfold aL;cases e:cu (bT r c) hd ls with
  |none=>exact⟨rfl,b,by simp,by simp,by simp,by simp,⟨c0,c1⟩,by simp⟩
  |some q=>
   obtain⟨d,t,l⟩:=q;obtain⟨a1,a2,a3,a4,a5,a6,a7⟩:=JH hm c0 c1 h1 h2 b e;have ih:=Pg rs (c+d) d l (λr hr=>ok r (eU _ hr)) a3 a4 a1 a2 a6;refine⟨ih.l1.trans a5,ih.l2,λx hx=>?_,?_,λh=>?_,λh=>?_,ih.c4,?_⟩;rcases eV.mp hx with rfl|hx;exact⟨a3,a4⟩;exact ih.c1 x hx;simp only[dG];have:=ih.c2;lia;simp only[dG];have:=ih.c3 h;lia;simp only[dG];have:=ih.c5 h;lia;simp only[dG,fS];have:=ih.t1;lia
theorem Ph{r:List W}{rs:List (List W)}{c hd:Int}{ls:List Int}(e:cu (bT r c) hd ls=aC):aL (r::rs) c hd ls=⟨[],[],ls,true⟩:=by unfold aL;rw[e]
theorem Pj{r:List W}{rs:List (List W)}{c hd d:Int}{ls t l:List Int}(e:cu (bT r c) hd ls=aB (d,t,l)):aL (r::rs) c hd ls=⟨(c+d):: (aL rs (c+d) d l).cs,t++(aL rs (c+d) d l).ts,(aL rs (c+d) d l).ls,(aL rs (c+d) d l).st⟩:=by rw[aL,e]
noncomputable def st3(h:VH)(gs:List VO)(c t l:List W):VH:=⟨h.n+3+gs.length,h.n,gs++(.lst l :: .lst t :: .lst c::h.os)⟩
theorem m5{h:VH}{gs:List VO}{c t l:List W}:(st3 h gs c t l).get h.n=aB (.lst c):=by unfold st3 VH.get;rw[if_pos (fD.mpr (by show h.n<h.n+3+gs.length;lia))];show(gs++(.lst l :: .lst t :: .lst c::h.os))[h.n+3+gs.length-1-h.n]?=_;rw[kI (by lia),show h.n+3+gs.length-1-h.n-gs.length=2 by lia];rfl
theorem m8{h:VH}{gs:List VO}{c t l:List W}:(st3 h gs c t l).get (h.n+1)=aB (.lst t):=by unfold st3 VH.get;rw[if_pos (fD.mpr (by show h.n+1<h.n+3+gs.length;lia))];show(gs++(.lst l :: .lst t :: .lst c::h.os))[h.n+3+gs.length-1- (h.n+1)]?=_;rw[kI (by lia),show h.n+3+gs.length-1- (h.n+1)-gs.length=1 by lia];rfl
theorem o9{h:VH}{gs:List VO}{c t l:List W}:(st3 h gs c t l).get (h.n+2)=aB (.lst l):=by unfold st3 VH.get;rw[if_pos (fD.mpr (by show h.n+2<h.n+3+gs.length;lia))];show(gs++(.lst l :: .lst t :: .lst c::h.os))[h.n+3+gs.length-1- (h.n+2)]?=_;rw[kI (by lia),show h.n+3+gs.length-1- (h.n+2)-gs.length=0 by lia];rfl
theorem qj{a b:Nat}(h:b<=a):Nat.blt a b=false:=by
 cases q:Nat.blt a b with|false=>rfl|true=>have:=fD.mp q;lia
theorem Pk{h:VH}{gs:List VO}{c t l c':List W}:(st3 h gs c t l).set h.n (.lst c')=st3 h gs c' t l:=by unfold st3 VH.set;simp only[qj (bq h.n)];rw[DF _ _ (by lia),show h.n+3+gs.length-1-h.n-gs.length=2 by lia];rfl
theorem Pn{h:VH}{gs:List VO}{c t l t':List W}:(st3 h gs c t l).set (h.n+1) (.lst t')=st3 h gs c t' l:=by unfold st3 VH.set;simp only[qj (ly h.n)];rw[DF _ _ (by lia),show h.n+3+gs.length-1- (h.n+1)-gs.length=1 by lia];rfl
theorem ZH{h:VH}{gs:List VO}{c t l l':List W}:(st3 h gs c t l).set (h.n+2) (.lst l')=st3 h gs c t l':=by unfold st3 VH.set;simp only[qj (show h.n<=h.n+2 by lia)];rw[DF _ _ (by lia),show h.n+3+gs.length-1- (h.n+2)-gs.length=0 by lia];rfl
theorem JI{h:VH}{gs:List VO}{c t l:List W}{o:VO}:(st3 h gs c t l).new o=st3 h (o::gs) c t l:=by unfold st3 VH.new;simp only[dG,nD];rw[show h.n+3+gs.length+1=h.n+3+ (gs.length+1) by lia]
theorem ia{h:VH}{x y:Str}(hx:PyData.strOk x)(hy:PyData.strOk y):cR h (.str x) (.str y)=aB (x==y):=by rw[wQ (x:=y) (by exact hx) hy];rfl
@[simp] theorem JJ {h:VH}:cR h (.str sX) (.str (bH "x"))=aB true:=(ia (by decide +kernel) (by decide +kernel)).trans (by decide +kernel)
@[simp] theorem Ga {h:VH}:cR h (.str sX) (.str (bH "<"))=aB false:=(ia (by decide +kernel) (by decide +kernel)).trans (by decide +kernel)
@[simp] theorem Gb {h:VH}:cR h (.str sX) (.str (bH ">"))=aB false:=(ia (by decide +kernel) (by decide +kernel)).trans (by decide +kernel)
@[simp] theorem Cs {h:VH}:cR h (.str sX) (.str (bH "."))=aB false:=(ia (by decide +kernel) (by decide +kernel)).trans (by decide +kernel)
@[simp] theorem wV {h:VH}:cR h (.str sX) (.str (bH "s"))=aB false:=(ia (by decide +kernel) (by decide +kernel)).trans (by decide +kernel)
@[simp] theorem Gd {h:VH}:cR h (.str cC) (.str (bH "x"))=aB false:=(ia (by decide +kernel) (by decide +kernel)).trans (by decide +kernel)
@[simp] theorem Ct {h:VH}:cR h (.str cC) (.str (bH "<"))=aB true:=(ia (by decide +kernel) (by decide +kernel)).trans (by decide +kernel)
@[simp] theorem Cu {h:VH}:cR h (.str cC) (.str (bH ">"))=aB false:=(ia (by decide +kernel) (by decide +kernel)).trans (by decide +kernel)
@[simp] theorem yT {h:VH}:cR h (.str cC) (.str (bH "."))=aB false:=(ia (by decide +kernel) (by decide +kernel)).trans (by decide +kernel)
@[simp] theorem sP {h:VH}:cR h (.str cC) (.str (bH "s"))=aB false:=(ia (by decide +kernel) (by decide +kernel)).trans (by decide +kernel)
@[simp] theorem Ge {h:VH}:cR h (.str cH) (.str (bH "x"))=aB false:=(ia (by decide +kernel) (by decide +kernel)).trans (by decide +kernel)
@[simp] theorem Cv {h:VH}:cR h (.str cH) (.str (bH "<"))=aB false:=(ia (by decide +kernel) (by decide +kernel)).trans (by decide +kernel)
@[simp] theorem Cw {h:VH}:cR h (.str cH) (.str (bH ">"))=aB true:=(ia (by decide +kernel) (by decide +kernel)).trans (by decide +kernel)
@[simp] theorem yU {h:VH}:cR h (.str cH) (.str (bH "."))=aB false:=(ia (by decide +kernel) (by decide +kernel)).trans (by decide +kernel)
@[simp] theorem sQ {h:VH}:cR h (.str cH) (.str (bH "s"))=aB false:=(ia (by decide +kernel) (by decide +kernel)).trans (by decide +kernel)
@[simp] theorem Cy {h:VH}:cR h (.str aP) (.str (bH "x"))=aB false:=(ia (by decide +kernel) (by decide +kernel)).trans (by decide +kernel)
@[simp] theorem yV {h:VH}:cR h (.str aP) (.str (bH "<"))=aB false:=(ia (by decide +kernel) (by decide +kernel)).trans (by decide +kernel)
@[simp] theorem yW {h:VH}:cR h (.str aP) (.str (bH ">"))=aB false:=(ia (by decide +kernel) (by decide +kernel)).trans (by decide +kernel)
@[simp] theorem wW {h:VH}:cR h (.str aP) (.str (bH "."))=aB true:=(ia (by decide +kernel) (by decide +kernel)).trans (by decide +kernel)
@[simp] theorem pe {h:VH}:cR h (.str aP) (.str (bH "s"))=aB false:=(ia (by decide +kernel) (by decide +kernel)).trans (by decide +kernel)
@[simp] theorem JK {h:VH}:cR h (.str sS) (.str (bH "x"))=aB false:=(ia (by decide +kernel) (by decide +kernel)).trans (by decide +kernel)
@[simp] theorem Gf {h:VH}:cR h (.str sS) (.str (bH "<"))=aB false:=(ia (by decide +kernel) (by decide +kernel)).trans (by decide +kernel)
@[simp] theorem Gg {h:VH}:cR h (.str sS) (.str (bH ">"))=aB false:=(ia (by decide +kernel) (by decide +kernel)).trans (by decide +kernel)
@[simp] theorem Cz {h:VH}:cR h (.str sS) (.str (bH "."))=aB false:=(ia (by decide +kernel) (by decide +kernel)).trans (by decide +kernel)
@[simp] theorem wX {h:VH}:cR h (.str sS) (.str (bH "s"))=aB true:=(ia (by decide +kernel) (by decide +kernel)).trans (by decide +kernel)
theorem ZJ{h0:VH}{gs:List VO}{c t l l':List W}{w:W}:leave (st3 h0 gs c t l) w (VH.set ⟨(st3 h0 gs c t l).n,(st3 h0 gs c t l).n,(st3 h0 gs c t l).os⟩ (h0.n+2) (.lst l'))=.ok w (st3 h0 gs c t l'):=by
 have hb:Nat.blt (h0.n+2) (h0.n+3+gs.length)=true:=fD.mpr (by lia);have hn:Nat.ble (h0.n+3+gs.length) (h0.n+2)=false:=by
  cases q:Nat.ble (h0.n+3+gs.length) (h0.n+2)with|false=>rfl|true=>have:=lu q;lia
 have hl:Nat.ble h0.n (h0.n+2)=true:=qA.mpr (by lia);unfold leave VH.set st3;simp only[hb,b9,hn,xT,hl];rw[if_neg (by simp),DF _ _ (by lia),show h0.n+3+gs.length-1- (h0.n+2)-gs.length=0 by lia];rfl
theorem Po{ls:List Int}{a:Nat}(h:a<ls.length):cz (ls.map W.int) (a:Int)=aB (.int (ls.getD a 0)):=
 pY (by rw[iC,iA h,kH,iA h];rfl)
theorem Pp{n a:Nat}(h:a<n):iw n (a:Int)=aB a:=by unfold iw;rw[if_pos (by lia),if_pos (by lia)];simp
theorem ZK{cl:Call}{a b:S}{ρ ρ':En}{h h':VH}(e:exs cl a ρ h=.ok (.bk ρ') h'):exs cl (.seq a b) ρ h=.ok (.bk ρ') h':=by simp only[exs,e,aD]
theorem Pq{wd g c:Int}{r:List W}(ok:(r.length:Int)=wd/\dh wd g 0 r)(c0:0<=c)(c1:c<wd):cz r c=aB (bT r c):=by have:=(yS ok c0 c1).1;obtain⟨n,rfl⟩:=kC c0;rw[qI]at this;exact pY this
noncomputable def iW(ls:List Int):W:=.tup (ls.map .int)
theorem lV{n:Nat}{ls:List Int}:W.lt n (iW ls)=true:=by
 unfold iW;rw[oY];induction ls with|nil=>simp|cons x r ih=>rw[dz,iM,ih,lt_int];rfl
theorem Bd.Ok.wY{B:Bd}(b:B.Ok){f:Nat}(hf:f<B.fd.length):∃c:Int,B.fd[f]?=aB (.int c)/\0<=c/\c<B.wd:=by
 have h:=b.f3 _ (nF hf);have e:B.fd[f]?=aB B.fd[f]:=iA hf;generalize B.fd[f]=w at h e;cases w<;>simp only[within]at h<;>try(cases h;done)
 rename_i c;rw[bM,gH,gH]at h;exact⟨c,e,h.1,by lia⟩
noncomputable def Bd.col(B:Bd)(f:Nat):Int:=match B.fd[f]? with|some (.int c)=>c|_=>0
theorem Bd.Ok.col{B:Bd}(b:B.Ok){f:Nat}(hf:f<B.fd.length):B.fd[f]?=aB (.int (B.col f))/\0<=B.col f/\B.col f<B.wd:=by
 obtain⟨c,e,h⟩:=b.wY hf;have:B.col f=c:=by unfold Bd.col;rw[e]
 rw[this];exact⟨e,h⟩
noncomputable def Bd.aX(B:Bd)(ls:List Int)(f:Nat):Fa:=aL B.rows (B.col f) 0 ls
theorem Bd.Ok.rows{B:Bd}(b:B.Ok){ls:List Int}(hl:(ls.length:Int)=B.gr):Cr B.wd (ls.length:Int) B.rows:=by rw[hl];exact b.r2
theorem Bd.Ok.aX{B:Bd}(b:B.Ok){ls:List Int}{f:Nat}(hf:f<B.fd.length)(hl:(ls.length:Int)=B.gr)(bi:dP ls):(B.aX ls f).Ok B.wd (B.col f) B.rows.length ls.length:=
 Pg _ _ _ _ (b.rows hl) (b.col hf).2.1 (b.col hf).2.2 (by decide) (by decide) bi
noncomputable def m9(B:Bd)(ls:List Int)(f:Nat):W:=.tup [iW (B.col f:: (B.aX ls f).cs),iW (B.aX ls f).ts,iW (B.aX ls f).ls]
theorem ZL{B:Bd}{ls:List Int}{f n:Nat}:W.lt n (m9 B ls f)=true:=by unfold m9;simp[lV]
theorem yX{cl:Call}{i l:Nat}{ρ:En}{h:VH}{ws:List W}(ki:ρ[i]?=aB (aB (.ref l)))(g:h.get l=aB (.lst ws)):ev cl (.bi .tuple (.cons (.var i) .nil)) ρ h=.ok (.tup ws) h:=by simp only[ev,ki,i6,aR,aD,gT,om,aN,g,dO]
theorem JL{cl:Call}{a b c:E}{ρ:En}{h:VH}{x y z:W}(ea:ev cl a ρ h=.ok x h)(eb:ev cl b ρ h=.ok y h)(ec:ev cl c ρ h=.ok z h):ev cl (.tup (.cons a (.cons b (.cons c .nil)))) ρ h=.ok (.tup [x,y,z]) h:=by rw[ev,ev,ea,aD,ev,eb,aD,ev,ec,aD,ev];rfl
theorem Pr:∀(cs:List Int) (c:Int),(c::cs)[cs.length]?=aB (dZ c cs)
 |[],c=>rfl
 |x::r,c=>by
  rw[dG,ir];exact Pr r x
theorem Pu{cs:List Int}{c:Int}:cz ((c::cs).map W.int) (-1)=aB (.int (dZ c cs)):=by
 have e:iw ((c::cs).map W.int).length (-1)=aB cs.length:=by unfold iw;rw[if_neg (by decide),bF,dG,if_pos (by lia)];congr 1;lia
 unfold cz;rw[e,Option.bind_some,iC,Pr];rfl
noncomputable def Bd.door(B:Bd)(c:Int):W:=(B.dr[c.toNat]?).getD .aI
theorem Bd.Ok.door{B:Bd}(b:B.Ok){c:Int}(c0:0<=c)(c1:c<B.wd):cz B.dr c=aB (B.door c)/\RF.door (B.door c) B.fd.length=true:=by
 obtain⟨n,rfl⟩:=kC c0;have hd:=b.d1;have hn:n<B.dr.length:=by lia
 have e:B.dr[n]?=aB B.dr[n]:=iA hn;have e2:B.door n=B.dr[n]:=by unfold Bd.door;rw[qI,e];rfl
 rw[e2];exact⟨pY e,b.d2 _ (nF hn)⟩
noncomputable def outD(B:Bd)(ls:List Int)(f:Nat):W:=if(B.aX ls f).st then .tup [.aI,.aI]else B.door (dZ (B.col f) (B.aX ls f).cs)
theorem JM{cl:Call}{a b:E}{ρ:En}{h:VH}{x y:W}(ea:ev cl a ρ h=.ok x h)(eb:ev cl b ρ h=.ok y h):ev cl (.tup (.cons a (.cons b .nil))) ρ h=.ok (.tup [x,y]) h:=by rw[ev,ev,ea,aD,ev,eb,aD,ev];rfl
theorem ZM{ls:List Int}{g:Int}(hl:(ls.length:Int)=g)(b:dP ls):sH (iW ls) g g 0 1=true:=by unfold iW sH gF;simp only[bF,bM,gH,lq];refine⟨⟨by lia,by lia⟩,λw hw=>?_⟩;obtain⟨x,hx,rfl⟩:=jh.mp hw;rcases b x hx with rfl|rfl<;>rfl
noncomputable def CA(w:W):W:=match w with|.tup [n,_]=>n|_=>.aI
noncomputable def nameP(B:Bd)(ls:List Int)(f:Nat):W:=CA (outD B ls f)
theorem ZN{B:Bd}{ls:List Int}{f:Nat}(b:B.Ok)(hf:f<B.fd.length)(hl:(ls.length:Int)=B.gr)(bi:dP ls):∃y,outD B ls f=.tup [nameP B ls f,y]/\(nameP B ls f=.aI\/∃i:Int,nameP B ls f=.int i):=by
 unfold nameP outD;cases z:(B.aX ls f).st with
 |true=>exact⟨.aI,rfl,.inl rfl⟩
 |false=>
  have q:=b.aX hf hl bi;obtain⟨a1,a2⟩:=b.door q.c4.1 q.c4.2;obtain⟨a,y,e,_,_,_⟩:=F2 a2;refine⟨y,?_,.inr ⟨a,?_⟩⟩;rw[if_neg (by simp),e];rfl;rw[if_neg (by simp),e];rfl
theorem Pw{B:Bd}{ls:List Int}{f:Nat}(b:B.Ok)(hf:f<B.fd.length)(hl:(ls.length:Int)=B.gr)(bi:dP ls)(n:Nat):W.lt n (nameP B ls f)=true:=by obtain⟨_,_,e|⟨i,e⟩⟩:=ZN b hf hl bi<;>rw[e]<;>simp
noncomputable def gD:List (Key×W):=[(.inr aP,.int 0),(.inr cC,.int (-1)),(.inr cH,.int 1)]
theorem ZO:ET [] [(.inr aP,.int 0),(.inr cC,.int (-1)),(.inr cH,.int 1)]=gD:=by rfl
theorem ZP:bE gD (.inr aP)=aB (.int 0):=by rfl
theorem ZQ:bE gD (.inr cC)=aB (.int (-1)):=by rfl
theorem ZR:bE gD (.inr cH)=aB (.int 1):=by rfl
theorem ZT{cl:Call}{ρ:En}{h:VH}:ev cl rV ρ h=.ok (.ref h.n) (h.new (.dk gD)):=by simp only[rV,ev,aD,oq,mL];rw[if_pos (by decide)];show Res.ok _ (h.new (.dk (ET [] _)))=_;rw[ZO]
theorem Px{h:VH}{o:VO}:(h.new o).get h.n=aB o:=by unfold VH.get VH.new;rw[if_pos (fD.mpr (by show h.n<h.n+1;lia))];show(o::h.os)[h.n+1-1-h.n]?=_;rw[show h.n+1-1-h.n=0 by lia];rfl
theorem ZU{cl:Call}{ρ:En}{h:VH}{x:Str}{d:Int}(ki:ρ[8]?=aB (aB (.str x)))(e:bE gD (.inr x)=aB (.int d)):ev cl (.idx rV (.var 8)) ρ h=.ok (.int d) (h.new (.dk gD)):=by rw[ev,ZT,aD,ev,ki];show(Res.of (bx (h.new (.dk gD)) (.ref h.n) (.str x)) (h.new (.dk gD)))=_;unfold bx;simp only[Px,e];rfl
theorem CB{h:VH}{p q:Int}{x:Str}(hx:PyData.strOk x):cR h (.tup [.int p,.int q]) (.str x)=aB false:=by rw[wQ (x:=x) rfl hx];rfl
noncomputable def pq(st:Bool):E:=.lst (.cons (.bi .tuple (.cons (.var 4) .nil)) (.cons (.bi .tuple (.cons (.var 5) .nil)) (.cons (.bi .tuple (.cons (.var 1) .nil)) (.cons (.cst (.bl st)) .nil))))
theorem Py{cl:Call}{st:Bool}{ρ:En}{h0:VH}{gs:List VO}{cs ts ls:List W}(r4:ρ[4]?=aB (aB (.ref h0.n)))(r5:ρ[5]?=aB (aB (.ref (h0.n+1))))(r1:ρ[1]?=aB (aB (.ref (h0.n+2)))) :
 ev cl (pq st) ρ (st3 h0 gs cs ts ls)=.ok (.ref (h0.n+3+gs.length)) (st3 h0 (.lst [.tup cs,.tup ts,.tup ls,.bl st]::gs) cs ts ls):=by
 unfold pq;rw[ev,ev,yX r4 m5,aD,ev,yX r5 m8,aD,ev,yX r1 o9,aD,ev,ev,aD,ev];simp only[aD];rw[if_pos (by rfl),JI];rfl
theorem CD{cl:Call}{h0:VH}{gs:List VO}{cs ts ls:List W}{b l f:W}{a r:W}{w:W}{c d:Int}(hc:cz cs (-1)=aB (.int c))(hl:cs.length<=1000000) :
 exs cl (.seq (.expr (.mt .append (.var 4) (.cons (.op .add (.idx (.var 4) (.neg (.cst (.int (1))))) (.var 6)) .nil))) .skip) [aB b,aB l,aB f,aB a,aB (.ref h0.n),aB (.ref (h0.n+1)),aB (.int d),aB r,aB w] (st3 h0 gs cs ts ls)=.ok (.nx [aB b,aB l,aB f,aB a,aB (.ref h0.n),aB (.ref (h0.n+1)),aB (.int d),aB r,aB w]) (st3 h0 gs (cs++[.int (c+d)]) ts ls):=by
 have g:=m5 (h:=h0) (gs:=gs) (c:=cs) (t:=ts) (l:=ls);have ea:=wU (cl:=cl) (i:=4) (l:=h0.n) (x:=.op .add (.idx (.var 4) (.neg (.cst (.int (1))))) (.var 6)) (ρ:=[aB b,aB l,aB f,aB a,aB (.ref h0.n),aB (.ref (h0.n+1)),aB (.int d),aB r,aB w]) (h:=st3 h0 gs cs ts ls) (h1:=st3 h0 gs cs ts ls) (w:=.int (c+d)) (acc:=cs) (kU:=cs) rfl g (by simp only[ev,i6,ir,jg,aR,aD,bx,g,hc,ck,eF,dO]) g hl;rw[Pk]at ea;simp only[exs,ea,aD]
theorem JN{cl:Call}{h0:VH}{gs:List VO}{cs ts ls:List W}{b l f a r:W}{hd d:Int}{x:Str}(e1:(.str x:W)=.str aP\/(.str x:W)=.str cC\/(.str x:W)=.str cH)(e:bE gD (.inr x)=aB (.int d)) :
 exs cl kT [aB b,aB l,aB f,aB a,aB (.ref h0.n),aB (.ref (h0.n+1)),aB (.int hd),aB r,aB (.str x)] (st3 h0 gs cs ts ls)=.ok (.nx [aB b,aB l,aB f,aB a,aB (.ref h0.n),aB (.ref (h0.n+1)),aB (.int d),aB r,aB (.str x)]) (st3 h0 (.dk gD::gs) cs ts ls):=by
 have ed:=ZU (cl:=cl) (ρ:=[aB b,aB l,aB f,aB a,aB (.ref h0.n),aB (.ref (h0.n+1)),aB (.int hd),aB r,aB (.str x)]) (h:=st3 h0 gs cs ts ls) rfl e;rw[JI]at ed;have ec:ev cl (.or (.cmp .eq (.var 8) (.cst (.str (bH ".")))) (.or (.cmp .eq (.var 8) (.cst (.str (bH "<")))) (.cmp .eq (.var 8) (.cst (.str (bH ">")))))) [aB b,aB l,aB f,aB a,aB (.ref h0.n),aB (.ref (h0.n+1)),aB (.int hd),aB r,aB (.str x)] (st3 h0 gs cs ts ls)=.ok (.bl true) (st3 h0 gs cs ts ls):=by rcases e1 with e1|e1|e1<;>rw[e1]<;>simp[ev,aQ]
 unfold kT;rw[exs,ec,aD];simp only[exs,ed,aD,iB,gQ]
theorem CF{cl:Call}{h0:VH}{gs:List VO}{cs ts ls:List W}{b l f a r:W}{hd:Int} :
 exs cl kT [aB b,aB l,aB f,aB a,aB (.ref h0.n),aB (.ref (h0.n+1)),aB (.int hd),aB r,aB (.str sX)] (st3 h0 gs cs ts ls)=.ok (.nx [aB b,aB l,aB f,aB a,aB (.ref h0.n),aB (.ref (h0.n+1)),aB (.int hd),aB r,aB (.str sX)]) (st3 h0 gs cs ts ls):=by
 simp[kT,exs,ev,aQ]
theorem ZV{cl:Call}{h0:VH}{gs:List VO}{cs ts:List W}{ls:List Int}{b f a r:W}{hd:Int}{p q:Nat}(hp:p<ls.length)(ht:ts.length<=1000000) :
 exs cl kT [aB b,aB (.ref (h0.n+2)),aB f,aB a,aB (.ref h0.n),aB (.ref (h0.n+1)),aB (.int hd),aB r,aB (.tup [.int p,.int q])] (st3 h0 gs cs ts (ls.map .int))=.ok (.nx [aB b,aB (.ref (h0.n+2)),aB f,aB a,aB (.ref h0.n),aB (.ref (h0.n+1)),aB (.int (if ls.getD p 0=q then -1 else 1)),aB r,aB (.tup [.int p,.int q])]) (st3 h0 gs cs (ts++[.int p]) ((ls.set p (1-ls.getD p 0)).map .int)):=by
 have e1:=Po hp;have e2:iw (ls.map W.int).length (p:Int)=aB p:=Pp (by rw[bF];exact hp);have i0:cz [W.int p,.int q] 0=aB (.int p):=rfl;have i1:cz [W.int p,.int q] 1=aB (.int q):=rfl;have n1:∀h,cR h (.tup [.int (p:Int),.int (q:Int)]) (.str (bH "."))=aB false:=λh=>CB (by decide +kernel);have n2:∀h,cR h (.tup [.int (p:Int),.int (q:Int)]) (.str (bH "<"))=aB false:=λh=>CB (by decide +kernel);have n3:∀h,cR h (.tup [.int (p:Int),.int (q:Int)]) (.str (bH ">"))=aB false:=λh=>CB (by decide +kernel);have n4:∀h,cR h (.tup [.int (p:Int),.int (q:Int)]) (.str (bH "x"))=aB false:=λh=>CB (by decide +kernel);have g:=o9 (h:=h0) (gs:=gs) (c:=cs) (t:=ts) (l:=ls.map .int);have s1:exs cl (.set 6 (.op .sub (.cst (.int (1))) (.op .mul (.cst (.int (2))) (.bi .int (.cons (.cmp .eq (.idx (.var 1) (.idx (.var 8) (.cst (.int (0))))) (.idx (.var 8) (.cst (.int (1))))) .nil))))) [aB b,aB (.ref (h0.n+2)),aB f,aB a,aB (.ref h0.n),aB (.ref (h0.n+1)),aB (.int hd),aB r,aB (.tup [.int p,.int q])] (st3 h0 gs cs ts (ls.map .int))=.ok (.nx [aB b,aB (.ref (h0.n+2)),aB f,aB a,aB (.ref h0.n),aB (.ref (h0.n+1)),aB (.int (if ls.getD p 0=q then -1 else 1)),aB r,aB (.tup [.int p,.int q])]) (st3 h0 gs cs ts (ls.map .int)):=by
  generalize ls.getD p 0=y at e1 ⊢;have sm:nu 2=true:=by decide
  by_cases z:y=(q:Int)
  simp only[exs,ev,i6,ir,jg,aR,aD,bx,i0,i1,g,e1,aQ,iN,z,decide_true,b9,dO,gT,jE,ck,eF,sm,zl,iB,gQ];rfl;simp only[exs,ev,i6,ir,jg,aR,aD,bx,i0,i1,g,e1,aQ,iN,z,decide_false,dF,dO,gT,jE,ck,eF,sm,zl,iB,gQ];rfl
 generalize hy:(if ls.getD p 0=(q:Int)then(-1:Int)else 1)=dd at s1 ⊢;have ea:=wU (cl:=cl) (i:=5) (l:=h0.n+1) (x:=.idx (.var 8) (.cst (.int 0))) (ρ:=[aB b,aB (.ref (h0.n+2)),aB f,aB a,aB (.ref h0.n),aB (.ref (h0.n+1)),aB (.int dd),aB r,aB (.tup [.int p,.int q])]) (h:=st3 h0 gs cs ts (ls.map .int)) (h1:=st3 h0 gs cs ts (ls.map .int)) (w:=.int p) (acc:=ts) (kU:=ts) rfl m8 (by simp only[ev,i6,ir,jg,aR,aD,bx,i0]) m8 ht;rw[Pn]at ea;have g2:=o9 (h:=h0) (gs:=gs) (c:=cs) (t:=ts++[.int p]) (l:=ls.map .int);have s3:exs cl (.put (.var 1) (.idx (.var 8) (.cst (.int (0)))) (.op .sub (.cst (.int (1))) (.idx (.var 1) (.idx (.var 8) (.cst (.int (0))))))) [aB b,aB (.ref (h0.n+2)),aB f,aB a,aB (.ref h0.n),aB (.ref (h0.n+1)),aB (.int dd),aB r,aB (.tup [.int p,.int q])] (st3 h0 gs cs (ts++[.int p]) (ls.map .int))=.ok (.nx [aB b,aB (.ref (h0.n+2)),aB f,aB a,aB (.ref h0.n),aB (.ref (h0.n+1)),aB (.int dd),aB r,aB (.tup [.int p,.int q])]) (st3 h0 gs cs (ts++[.int p]) ((ls.set p (1-ls.getD p 0)).map .int)):=by simp only[exs,ev,i6,ir,jg,aR,aD,bx,i0,g2,e1,ck,eF,dO,e2,ZH,List.map_set]
 unfold kT;have ec:ev cl (.or (.cmp .eq (.var 8) (.cst (.str (bH ".")))) (.or (.cmp .eq (.var 8) (.cst (.str (bH "<")))) (.cmp .eq (.var 8) (.cst (.str (bH ">")))))) [aB b,aB (.ref (h0.n+2)),aB f,aB a,aB (.ref h0.n),aB (.ref (h0.n+1)),aB (.int hd),aB r,aB (.tup [.int p,.int q])] (st3 h0 gs cs ts (ls.map .int))=.ok (.bl false) (st3 h0 gs cs ts (ls.map .int)):=by simp[ev,aQ,n1,n2,n3]
 have ed:ev cl (.cmp .ne (.var 8) (.cst (.str (bH "x")))) [aB b,aB (.ref (h0.n+2)),aB f,aB a,aB (.ref h0.n),aB (.ref (h0.n+1)),aB (.int hd),aB r,aB (.tup [.int p,.int q])] (st3 h0 gs cs ts (ls.map .int))=.ok (.bl true) (st3 h0 gs cs ts (ls.map .int)):=by simp[ev,aQ,n4]
 rw[exs,ec,aD];simp only;have s0:exs cl (.ite (.cmp .ne (.var 8) (.cst (.str (bH "x")))) (.seq (.set 6 (.op .sub (.cst (.int (1))) (.op .mul (.cst (.int (2))) (.bi .int (.cons (.cmp .eq (.idx (.var 1) (.idx (.var 8) (.cst (.int (0))))) (.idx (.var 8) (.cst (.int (1))))) .nil))))) (.seq (.expr (.mt .append (.var 5) (.cons (.idx (.var 8) (.cst (.int (0)))) .nil))) (.seq (.put (.var 1) (.idx (.var 8) (.cst (.int (0)))) (.op .sub (.cst (.int (1))) (.idx (.var 1) (.idx (.var 8) (.cst (.int (0))))))) .skip))) .skip) [aB b,aB (.ref (h0.n+2)),aB f,aB a,aB (.ref h0.n),aB (.ref (h0.n+1)),aB (.int hd),aB r,aB (.tup [.int p,.int q])] (st3 h0 gs cs ts (ls.map .int))=.ok (.nx [aB b,aB (.ref (h0.n+2)),aB f,aB a,aB (.ref h0.n),aB (.ref (h0.n+1)),aB (.int dd),aB r,aB (.tup [.int p,.int q])]) (st3 h0 gs cs (ts++[.int p]) ((ls.set p (1-ls.getD p 0)).map .int)):=by rw[exs,ed,aD];simp only;rw[aT s1,aT (ρ':=[aB b,aB (.ref (h0.n+2)),aB f,aB a,aB (.ref h0.n),aB (.ref (h0.n+1)),aB (.int dd),aB r,aB (.tup [.int p,.int q])]) (h':=st3 h0 gs cs (ts++[.int p]) (ls.map .int)) (by rw[exs,ea,aD]),aT s3];rfl
 rw[aT s0];rfl
structure CoreL(F:Nat->Option Fn):Prop where
 ZW:F 38=aB oW
theorem ZX:yL=.seq (.set 8 (.idx (.var 7) (.idx (.var 4) (.neg (.cst (.int (1))))))) (.seq (.ite (.cmp .eq (.var 8) sE) (.seq (.ret (pq true)) .skip) .skip) (.seq kT (.seq (.expr (.mt .append (.var 4) (.cons (.op .add (.idx (.var 4) (.neg (.cst (.int (1))))) (.var 6)) .nil))) .skip))):=rfl
theorem ZY:oW=⟨3,9,.seq (.set 3 (.idx (.idx (.var 0) (.cst (.int (3)))) (.var 2))) (.seq (.set 4 (.lst (.cons (.var 3) .nil))) (.seq (.set 5 (.lst .nil)) (.seq (.set 1 (.bi .list (.cons (.var 1) .nil))) (.seq (.set 6 (.cst (.int (0)))) (.seq (.«for» .seq (.idx (.var 0) (.cst (.int (2)))) (.one 7) yL) (.seq (.ret (pq false)) .skip))))))⟩:=rfl
theorem ZZ{cl:Call}{h0:VH}{gs:List VO}{b f a:W}{r:List W}{c wd hd:Int}{cs ts:List W}{ls:List Int}{y:Option W}(ok:(r.length:Int)=wd/\dh wd (ls.length:Int) 0 r)(c0:0<=c)(c1:c<wd)(hc:cs.length<=1000)(ht:ts.length<=1000)(fR:cz cs (-1)=aB (.int c)) :
 ∃gs',exs cl yL [aB b,aB (.ref (h0.n+2)),aB f,aB a,aB (.ref h0.n),aB (.ref (h0.n+1)),aB (.int hd),aB (.tup r),y] (st3 h0 gs cs ts (ls.map .int))=match cu (bT r c) hd ls with
  |none=>.ok (.rt (.ref (h0.n+3+gs.length))) (st3 h0 (.lst [.tup cs,.tup ts,iW ls,.bl true]::gs) cs ts (ls.map .int))
  |some (d,t,l')=>.ok (.nx [aB b,aB (.ref (h0.n+2)),aB f,aB a,aB (.ref h0.n),aB (.ref (h0.n+1)),aB (.int d),aB (.tup r),aB (bT r c)]) (st3 h0 gs' (cs++[.int (c+d)]) (ts++t.map .int) (l'.map .int)):=by
 obtain⟨_,hm⟩:=yS ok c0 c1;have e0:=Pq ok c0 c1;generalize bT r c=w at hm e0 ⊢;have g:=m5 (h:=h0) (gs:=gs) (c:=cs) (t:=ts) (l:=ls.map .int);have s1:exs cl (.set 8 (.idx (.var 7) (.idx (.var 4) (.neg (.cst (.int (1))))))) [aB b,aB (.ref (h0.n+2)),aB f,aB a,aB (.ref h0.n),aB (.ref (h0.n+1)),aB (.int hd),aB (.tup r),y] (st3 h0 gs cs ts (ls.map .int))=.ok (.nx [aB b,aB (.ref (h0.n+2)),aB f,aB a,aB (.ref h0.n),aB (.ref (h0.n+1)),aB (.int hd),aB (.tup r),aB w]) (st3 h0 gs cs ts (ls.map .int)):=by simp only[exs,ev,i6,ir,jg,aR,aD,bx,g,fR,e0,iB,gQ]
 have no:∀_:Unit,cR (st3 h0 gs cs ts (ls.map .int)) w (.str sS)=aB false->exs cl (.ite (.cmp .eq (.var 8) sE) (.seq (.ret (pq true)) .skip) .skip) [aB b,aB (.ref (h0.n+2)),aB f,aB a,aB (.ref h0.n),aB (.ref (h0.n+1)),aB (.int hd),aB (.tup r),aB w] (st3 h0 gs cs ts (ls.map .int))=.ok (.nx [aB b,aB (.ref (h0.n+2)),aB f,aB a,aB (.ref h0.n),aB (.ref (h0.n+1)),aB (.int hd),aB (.tup r),aB w]) (st3 h0 gs cs ts (ls.map .int)):=by intro _ e;simp only[exs,ev,i6,ir,jg,aR,aD,aQ,e,dO]
 rw[ZX,aT s1];rcases F3 hm with⟨rfl,h3,h4⟩|⟨rfl,h3⟩|⟨rfl,h3⟩|rfl|rfl|⟨p,q,rfl,h3,h4,h5,h6⟩
 refine⟨gs,?_⟩;rw[F4,aT (no () wV),aT CF,CD fR (by lia)];simp;refine⟨.dk gD::gs,?_⟩;rw[F5,aT (no () sP),aT (JN (.inr (.inl rfl)) ZQ),CD fR (by lia)];simp;refine⟨.dk gD::gs,?_⟩;rw[F6,aT (no () sQ),aT (JN (.inr (.inr rfl)) ZR),CD fR (by lia)];simp;refine⟨.dk gD::gs,?_⟩;rw[F7,aT (no () pe),aT (JN (.inl rfl) ZP),CD fR (by lia)];simp;refine⟨gs,?_⟩;rw[F8];have ee:=Py (cl:=cl) (st:=true) (ρ:=[aB b,aB (.ref (h0.n+2)),aB f,aB a,aB (.ref h0.n),aB (.ref (h0.n+1)),aB (.int hd),aB (.tup r),aB (.str sS)]) (h0:=h0) (gs:=gs) (cs:=cs) (ts:=ts) (ls:=ls.map .int) rfl rfl rfl;refine cQ ?_;have ec:ev cl (.cmp .eq (.var 8) sE) [aB b,aB (.ref (h0.n+2)),aB f,aB a,aB (.ref h0.n),aB (.ref (h0.n+1)),aB (.int hd),aB (.tup r),aB (.str sS)] (st3 h0 gs cs ts (ls.map .int))=.ok (.bl true) (st3 h0 gs cs ts (ls.map .int)):=by simp only[ev,i6,ir,jg,aR,aD,aQ,wX,dO]
 rw[exs,ec,aD];simp only[exs,ee,aD];rfl;refine⟨gs,?_⟩;rw[F9,aT (no () (CB (by decide +kernel))),aT (ZV (by lia) (by lia)),CD fR (by lia)];rfl
theorem Pz{cl:Call}{h0:VH}{b f a:W}{wd:Int}:∀(rs:List (List W)) (c hd:Int) (gs:List VO) (cs ts:List W) (ls:List Int) (x y:Option W),Cr wd (ls.length:Int) rs->0<=c->c<wd->-1<=hd->hd<=1->dP ls->cs.length+rs.length<=1000->ts.length+rs.length<=1000->cz cs (-1)=aB (.int c)->
 ∃gs' hd' x' y',forL (bz (.one 7)) (exs cl yL) (rs.map .tup) [aB b,aB (.ref (h0.n+2)),aB f,aB a,aB (.ref h0.n),aB (.ref (h0.n+1)),aB (.int hd),x,y] (st3 h0 gs cs ts (ls.map .int)) =
  if(aL rs c hd ls).st then .ok (.rt (.ref (h0.n+3+gs'.length))) (st3 h0 (.lst [.tup (cs++(aL rs c hd ls).cs.map .int),.tup (ts++(aL rs c hd ls).ts.map .int),iW (aL rs c hd ls).ls,.bl true]::gs') (cs++(aL rs c hd ls).cs.map .int) (ts++(aL rs c hd ls).ts.map .int) ((aL rs c hd ls).ls.map .int))
  else .ok (.nx [aB b,aB (.ref (h0.n+2)),aB f,aB a,aB (.ref h0.n),aB (.ref (h0.n+1)),hd',x',y']) (st3 h0 gs' (cs++(aL rs c hd ls).cs.map .int) (ts++(aL rs c hd ls).ts.map .int) ((aL rs c hd ls).ls.map .int))
 |[],c,hd,gs,cs,ts,ls,x,y,_,_,_,_,_,_,_,_,_=>⟨gs,aB (.int hd),x,y,by simp[forL,aL]⟩
 |r::rs,c,hd,gs,cs,ts,ls,x,y,ok,c0,c1,h1,h2,bi,hc,ht,fR=>by
  have hc':cs.length+rs.length+1<=1000:=by rw[dG]at hc;lia
  have ht':ts.length+rs.length+1<=1000:=by rw[dG]at ht;lia
  obtain⟨Gh,eb⟩:=ZZ (cl:=cl) (h0:=h0) (gs:=gs) (b:=b) (f:=f) (a:=a) (hd:=hd) (cs:=cs) (ts:=ts) (y:=y) (ok r eX) c0 c1 (by lia) (by lia) fR;obtain⟨_,hm⟩:=yS (ok r eX) c0 c1;cases e:cu (bT r c) hd ls with
  |none=>
   rw[e]at eb;rw[Ph e];refine⟨gs,aB (.int hd),x,y,?_⟩;simp only[dz,forL,bz,iB,gQ,eb,aD,nH,pT,b9]
  |some q=>
   obtain⟨d,t,l'⟩:=q;rw[e]at eb;obtain⟨a1,a2,a3,a4,a5,a6,a7⟩:=JH hm c0 c1 h1 h2 bi e;obtain⟨gs',hd',x',y',ih⟩:=Pz (cl:=cl) (h0:=h0) (b:=b) (f:=f) (a:=a) rs (c+d) d Gh (cs++[.int (c+d)]) (ts++t.map .int) l' (aB (.tup r)) (aB (bT r c)) (λr hr=>by rw[a5];exact ok r (eU _ hr)) a3 a4 a1 a2 a6 (by simp only[fS,kJ];lia) (by simp only[fS,bF];lia) (Tv _ _);rw[Pj e];refine⟨gs',hd',x',y',?_⟩;simp only[dz,forL,bz,iB,gQ,eb,aD,ih,ni,vd,List.singleton_append]
theorem Z0{h:VH}{gs:List VO}{c t l:List W}{i:Nat}(hi:i<h.n):(st3 h gs c t l).get i=h.get i:=by unfold st3 VH.get;rw[if_pos (fD.mpr (by show i<h.n+3+gs.length;lia)),if_pos (fD.mpr hi)];show(gs++(.lst l :: .lst t :: .lst c::h.os))[h.n+3+gs.length-1-i]?=_;rw[kI (by lia),show h.n+3+gs.length-1-i-gs.length=(h.n-1-i)+3 by lia];rfl
theorem Z1{h:VH}{gs:List VO}{c t l:List W}{o:VO}:(st3 h (o::gs) c t l).get (h.n+3+gs.length)=aB o:=by rw[<-JI];exact Px
section
variable{F:Nat->Option Fn}(C:CoreL F)
include C
theorem Z2{k:Nat}{h:VH}{B:Bd}{ls:List Int}{f:Nat}{c:Int}(hlo:h.lo<=h.n)(hf:B.fd[f]?=aB (.int c))(c0:0<=c)(c1:c<B.wd)(hr:Cr B.wd (ls.length:Int) B.rows)(Zk:B.rows.length<=60)(bi:dP ls) :
 ∃i h',run F (k+1) 38 [B.w,iW ls,.int f] h=.ok (.ref i) h'/\h'.get i=aB (.lst [iW (c:: (aL B.rows c 0 ls).cs),iW (aL B.rows c 0 ls).ts,iW (aL B.rows c 0 ls).ls,.bl (aL B.rows c 0 ls).st])/\Gw h h':=by
 rw[cA C.ZW rfl];have e1:cz B.fd (f:Int)=aB (.int c):=pY hf;have i3:cz [W.int B.wd,.int B.gr,.tup (B.rows.map .tup),.tup B.fd,.tup B.dr] 3=aB (.tup B.fd):=rfl;have i2:cz [W.int B.wd,.int B.gr,.tup (B.rows.map .tup),.tup B.fd,.tup B.dr] 2=aB (.tup (B.rows.map .tup)):=rfl;have hz:(B.rows.map W.tup).length<1000000:=by rw[bF];lia
 obtain⟨gs,hd',x',y',el⟩:=Pz (cl:=run F k) (h0:=h) (b:=B.w) (f:=.int f) (a:=.int c) B.rows c 0 [] [.int c] [] ls aC aC hr c0 c1 (by decide) (by decide) bi (by rw[kJ];lia) (by rw[qw];lia) rfl;have key:exs (run F k) oW.body [aB B.w,aB (iW ls),aB (.int f),aC,aC,aC,aC,aC,aC] ⟨h.n,h.n,h.os⟩=.ok (.rt (.ref (h.n+3+gs.length))) (st3 h (.lst [iW (c:: (aL B.rows c 0 ls).cs),iW (aL B.rows c 0 ls).ts,iW (aL B.rows c 0 ls).ls,.bl (aL B.rows c 0 ls).st]::gs) (([.int c]:List W)++(aL B.rows c 0 ls).cs.map .int) (([]:List W)++(aL B.rows c 0 ls).ts.map .int) ((aL B.rows c 0 ls).ls.map .int)):=by
  rw[ZY];show exs (run F k) (.seq _ _) _ _=_;rw[aT (ρ':=[aB B.w,aB (iW ls),aB (.int f),aB (.int c),aC,aC,aC,aC,aC]) (h':=⟨h.n,h.n,h.os⟩) (by unfold Bd.w;simp[exs,ev,bx,i3,e1])];rw[aT (ρ':=[aB B.w,aB (iW ls),aB (.int f),aB (.int c),aB (.ref h.n),aC,aC,aC,aC]) (h':=VH.new ⟨h.n,h.n,h.os⟩ (.lst [.int c])) (by simp[exs,ev])];rw[aT (ρ':=[aB B.w,aB (iW ls),aB (.int f),aB (.int c),aB (.ref h.n),aB (.ref (h.n+1)),aC,aC,aC]) (h':=VH.new (VH.new ⟨h.n,h.n,h.os⟩ (.lst [.int c])) (.lst [])) (by simp[exs,ev,VH.new])];rw[aT (ρ':=[aB B.w,aB (.ref (h.n+2)),aB (.int f),aB (.int c),aB (.ref h.n),aB (.ref (h.n+1)),aC,aC,aC]) (h':=st3 h [] [.int c] [] (ls.map .int)) (by unfold iW;simp[exs,ev,VH.new,gT,gS,aN,st3])];rw[aT (ρ':=[aB B.w,aB (.ref (h.n+2)),aB (.int f),aB (.int c),aB (.ref h.n),aB (.ref (h.n+1)),aB (.int 0),aC,aC]) (h':=st3 h [] [.int c] [] (ls.map .int)) (by simp[exs,ev])];have ei:ev (run F k) (.idx (.var 0) (.cst (.int (2)))) [aB B.w,aB (.ref (h.n+2)),aB (.int f),aB (.int c),aB (.ref h.n),aB (.ref (h.n+1)),aB (.int 0),aC,aC] (st3 h [] [.int c] [] (ls.map .int))=.ok (.tup (B.rows.map .tup)) (st3 h [] [.int c] [] (ls.map .int)):=by unfold Bd.w;simp[ev,bx,i2]
  have ef:=wO (tg:=bz (.one 7)) (b:=exs (run F k) yL) (ρ:=[aB B.w,aB (.ref (h.n+2)),aB (.int f),aB (.int c),aB (.ref h.n),aB (.ref (h.n+1)),aB (.int 0),aC,aC]) (h:=st3 h [] [.int c] [] (ls.map .int)) hz;rw[el]at ef;cases z:(aL B.rows c 0 ls).st with
  |true=>
   rw[z]at ef;refine(cQ (by rw[exs,ei,aD,ef];rfl)).trans ?_;rfl
  |false=>
   rw[z]at ef;refine(aT (by rw[exs,ei,aD,ef];rfl)).trans ?_;have ee:=Py (cl:=run F k) (st:=false) (ρ:=[aB B.w,aB (.ref (h.n+2)),aB (.int f),aB (.int c),aB (.ref h.n),aB (.ref (h.n+1)),hd',x',y']) (h0:=h) (gs:=gs) (cs:=([.int c]:List W)++(aL B.rows c 0 ls).cs.map .int) (ts:=([]:List W)++(aL B.rows c 0 ls).ts.map .int) (ls:=(aL B.rows c 0 ls).ls.map .int) rfl rfl rfl;simp only[exs,ee,aD];rfl
 show ∃i h',fin h (exs (run F k) oW.body [aB B.w,aB (iW ls),aB (.int f),aC,aC,aC,aC,aC,aC] ⟨h.n,h.n,h.os⟩)=.ok (.ref i) h'/\_/\_;rw[key];generalize (([.int c]:List W)++(aL B.rows c 0 ls).cs.map .int)=JO;generalize (([]:List W)++(aL B.rows c 0 ls).ts.map .int)=t1';generalize ((aL B.rows c 0 ls).ls.map W.int)=JP;generalize W.bl (aL B.rows c 0 ls).st=s1';refine⟨h.n+3+gs.length,⟨h.n+3+ (gs.length+1),h.lo,(.lst [iW (c:: (aL B.rows c 0 ls).cs),iW (aL B.rows c 0 ls).ts,iW (aL B.rows c 0 ls).ls,s1']::gs)++(.lst JP :: .lst t1' :: .lst JO::h.os)⟩,?_,?_,?_,rfl,?_⟩;show leave _ _ _=_;unfold leave;rw[if_neg (by rw[W.lt,qj (by lia)];simp)];show Res.ok _ ⟨_,if Nat.ble h.lo h.n then h.lo else h.n,_⟩=_;rw[if_pos (qA.mpr hlo)];rfl;exact(bC (h:=st3 h (.lst [iW (c:: (aL B.rows c 0 ls).cs),iW (aL B.rows c 0 ls).ts,iW (aL B.rows c 0 ls).ls,s1']::gs) JO t1' JP)).trans Z1;show h.n<=h.n+3+ (gs.length+1);lia;intro i o e;exact((bC (h:=st3 h (.lst [iW (c:: (aL B.rows c 0 ls).cs),iW (aL B.rows c 0 ls).ts,iW (aL B.rows c 0 ls).ls,s1']::gs) JO t1' JP)).trans (Z0 (cK e))).trans e
end
theorem PB{n:Nat}:∀{ws:List W},(∀w∈ws,W.lt n w=true)->W.kN n ws=true|[],_=>by simp|w::r,h=>by rw[iM,h w eX,PB λw hw=>h w (eU _ hw)];rfl
section
variable{F:Nat->Option Fn}(C:CoreD F)
include C
theorem PC{k:Nat}:∀(ns:List Int) (x:Option W) (h:VH),∃cells:List Int,je (bz (.one 0)) (ev (run F k) ur) (ev (run F k) uu) (ns.map .int) [x] h=.ok (cells.map .int) h/\(∀y∈cells,(0:Int)<=y)/\cells.length<=ns.length
 |[],x,h=>⟨[],rfl,(λy hy=>by cases hy),bq _⟩
 |n::ns,x,h=>by
  obtain⟨cells,e,h1,h2⟩:=PC (k:=k) ns (aB (.int n)) h;have MK:((10:Int).natAbs<2 ^ 64):=by decide
  have ec:ev (run F k) ur [aB (.int n)] h=.ok (.bl (decide (1000000000000000000<=(n.natAbs:Int)))) h:=by simp[ur,ev,gT,kO,ck,eF,aQ,fJ,JF]
  have ee:ev (run F k) uu [aB (.int n)] h=.ok (.int (n.natAbs:Int)) h:=by simp[uu,ev,gT,kO,JF]
  by_cases q:1000000000000000000<=(n.natAbs:Int)
  refine⟨(n.natAbs:Int)::cells,?_,λy hy=>?_,by rw[dG,dG];lia⟩;simp only[je,dz,bz,List.set,ec,aD,q,decide_true,ee,e];rcases eV.mp hy with rfl|hy
  lia;exact h1 y hy;refine⟨cells,?_,h1,by rw[dG];lia⟩;simp only[je,dz,bz,List.set,ec,aD,q,decide_false,e]
theorem JQ{k:Nat}{h:VH}{ns:List Int}(hl:ns.length<=63):∃h',run F (k+1) 3 [.fz (ns.map .int)] h=.ok (.ref (h.n+1)) h'/\Dk h' (h.n+1) h.n 0:=by
 rw[cA C.f3 rfl];obtain⟨cells,e,h1,h2⟩:=PC C (k:=k) ns aC ⟨h.n,h.n,h.os⟩;have l:=Cg (nx:=bw .seq (.fz (ns.map .int))) (tg:=bz (.one 0)) (c:=ev (run F k) ur) (e:=ev (run F k) uu) (ws:=ns.map .int) (λi h=>rfl) fuel 0 [aC] ⟨h.n,h.n,h.os⟩ [] (gX _) (by rw[bF];unfold fuel;lia);rw[tB,e]at l;have l:eG (bw .seq (.fz (ns.map .int))) (bz (.one 0)) (ev (run F k) ur) (ev (run F k) uu) fuel 0 [aC] ⟨h.n,h.n,h.os⟩ []=.ok (cells.map .int) ⟨h.n,h.n,h.os⟩:=l;have q:ev (run F k) (.lc .seq (.var 0) (.one 0) 1 [] ur uu) [aB (.fz (ns.map .int))] ⟨h.n,h.n,h.os⟩=.ok (.ref h.n) (VH.new ⟨h.n,h.n,h.os⟩ (.lst (cells.map .int))):=by rw[ev];have:ev (run F k) (.var 0) [aB (.fz (ns.map .int))] ⟨h.n,h.n,h.os⟩=.ok (.fz (ns.map .int)) ⟨h.n,h.n,h.os⟩:=rfl;rw[this,aD];show(eG (bw .seq (.fz (ns.map .int))) (bz (.one 0)) (ev (run F k) ur) (ev (run F k) uu) fuel 0 [aC] ⟨h.n,h.n,h.os⟩ []).bind _=_;rw[l,aD,if_pos (uL (by rw[bF];lia))]
 let jv:VH:=VH.new ⟨h.n,h.n,h.os⟩ (.lst (cells.map .int));let o:VO:=.lst [.fz (ns.map .int),.ref h.n,.int 0,.int 0];have eb:exs (run F k) B6.body [aB (.fz (ns.map .int))] ⟨h.n,h.n,h.os⟩=.ok (.rt (.ref (h.n+1))) (jv.new o):=by simp only[B6,exs,ev,aD,aR,jg,i6]at q ⊢;rw[q];rfl
 refine⟨⟨h.n+2,if Nat.ble h.lo h.n then h.lo else h.n,(jv.new o).os⟩,?_,?_⟩;show fin h (exs (run F k) B6.body [aB (.fz (ns.map .int))] ⟨h.n,h.n,h.os⟩)=_;rw[eb];show leave h (.ref (h.n+1)) (jv.new o)=_;unfold leave;rw[if_neg (by
  rw[bM];intro z;have:=z.2;simp only[W.lt]at this;have:=fD.mp this;lia)]
 rfl;refine⟨by lia,ns,cells,0,0,?_,?_,h1,by lia,by lia,by lia,by lia⟩;show VH.get ⟨(jv.new o).n,_,(jv.new o).os⟩ (h.n+1)=_;rw[bC];exact cY (h:=jv);show VH.get ⟨(jv.new o).n,_,(jv.new o).os⟩ h.n=_;rw[bC,gE (h:=jv) (by show h.n<h.n+1;lia)];exact cY (h:=⟨h.n,h.n,h.os⟩)
end
noncomputable def iQ(ws zs:List W):List W:=List.zipWith (λa b=>W.tup [a,b]) ws zs
theorem Z3{ws zs:List W}(i:Nat)(h:VH):bw .zip (.tup [.tup ws,.tup zs]) i h=aB (iQ ws zs)[i]?:=by simp only[bw,aN,iQ,List.getElem?_zipWith];cases ws[i]?<;>cases zs[i]?<;>rfl
theorem PD{cl:Call}{a:E}{ρ:En}{h h1 h2:VH}{ow:Nat}{ix:List Nat}{e:E}{t:Tg}{ws zs ys:List W}(ea:ev cl a ρ h=.ok (.tup [.tup ws,.tup zs]) h1)(hn:(iQ ws zs).length<1000000)(el:je (bz t) (λ_ h=>.ok (.bl true) h) (ev cl e) (iQ ws zs) (inner ow ix ρ) h1=.ok ys h2)(hy:ys.length<=1000000) :
 ev cl (.lc .zip a t ow ix (.cst (.bl true)) e) ρ h=.ok (.ref h2.n) (h2.new (.lst ys)):=by
 have l:=Cg (nx:=bw .zip (.tup [.tup ws,.tup zs])) (tg:=bz t) (c:=λ_ h=>.ok (.bl true) h) (e:=ev cl e) (ws:=iQ ws zs) (λi h=>Z3 i h) fuel 0 (inner ow ix ρ) h1 [] (gX _) (by simpa[fuel]using hn);rw[tB,el]at l;have q:ev cl (.lc .zip a t ow ix (.cst (.bl true)) e) ρ h=(ev cl a ρ h).bind λx h=>(eG (bw .zip x) (bz t) (ev cl (.cst (.bl true))) (ev cl e) fuel 0 (inner ow ix ρ) h []).bind λys h=>if Nat.ble ys.length big then .ok (.ref h.n) (h.new (.lst ys))else .no:=by rw[ev]
 rw[q,ea,aD];show(eG (bw .zip (.tup [.tup ws,.tup zs])) (bz t) (λ_ h=>.ok (.bl true) h) (ev cl e) fuel 0 (inner ow ix ρ) h1 []).bind _=_;rw[l];show(if Nat.ble ([].reverse++ys).length big then _ else _)=_;rw[DJ,qx,if_pos (uL hy)]
theorem eN{cl:Call}{o:Op}{a b:E}{ρ:En}{h h1 h2:VH}{x y:W}{r:Res W}(ea:ev cl a ρ h=.ok x h1)(eb:ev cl b ρ h1=.ok y h2)(e:ck o x y h2=r):ev cl (.op o a b) ρ h=r:=by rw[ev,ea,aD,eb,aD,e]
theorem bS{cl:Call}{a:E}{ρ:En}{h h1:VH}{x:W}(ea:ev cl a ρ h=.ok x h1):exs cl (.ret a) ρ h=.ok (.rt x) h1:=by rw[exs,ea,aD]
theorem bJ{cl:Call}{i:Nat}{a:E}{ρ:En}{h h1:VH}{x:W}(ea:ev cl a ρ h=.ok x h1):exs cl (.set i a) ρ h=.ok (.nx (ρ.set i (aB x))) h1:=by rw[exs,ea,aD]
theorem aE{cl:Call}{i:Nat}{ρ:En}{h:VH}{x:W}(e:ρ[i]?=aB (aB x)):ev cl (.var i) ρ h=.ok x h:=by rw[ev,e];rfl
theorem bY{cl:Call}{a b:E}{ρ:En}{h h1 h2:VH}{x y z:W}(ea:ev cl a ρ h=.ok x h1)(eb:ev cl b ρ h1=.ok y h2)(e:bx h2 x y=aB z):ev cl (.idx a b) ρ h=.ok z h2:=by rw[ev,ea,aD,eb,aD,e];rfl
theorem ic{cl:Call}{a:E}{ρ:En}{h h1:VH}{x:W}{ws:List W}(ea:ev cl a ρ h=.ok x h1)(e:aN h1 x=aB ws):ev cl (.bi .len (.cons a .nil)) ρ h=.ok (.int ws.length) h1:=by rw[ev,ev,ea,aD,ev,aD];show fK [x] h1=_;simp only[fK,e,aR]
theorem sR{cl:Call}{ρ:En}{h h1 h':VH}{n:Nat}{a:E}{x w:W}(ea:ev cl a ρ h=.ok x h1)(e:cl n [x] h1=.ok w h'):ev cl (.call n (.cons a .nil)) ρ h=.ok w h':=by rw[ev,ev,ea,aD,ev];exact e
theorem fL{cl:Call}{ρ:En}{h h1 h2 h':VH}{n:Nat}{a b:E}{x y w:W}(ea:ev cl a ρ h=.ok x h1)(eb:ev cl b ρ h1=.ok y h2)(e:cl n [x,y] h2=.ok w h'):ev cl (.call n (.cons a (.cons b .nil))) ρ h=.ok w h':=by rw[ev,ev,ea,aD,ev,eb,aD,ev];exact e
theorem pA{cl:Call}{ρ:En}{h h1 h2 h3 h':VH}{n:Nat}{a b c:E}{x y z w:W}(ea:ev cl a ρ h=.ok x h1)(eb:ev cl b ρ h1=.ok y h2)(ec:ev cl c ρ h2=.ok z h3)(e:cl n [x,y,z] h3=.ok w h'):ev cl (.call n (.cons a (.cons b (.cons c .nil)))) ρ h=.ok w h':=by rw[ev,ev,ea,aD,ev,eb,aD,ev,ec,aD,ev];exact e
theorem CG{cl:Call}{ρ:En}{h h1 h2 h3 h4 h':VH}{n:Nat}{a b c d:E}{x y z u w:W}(ea:ev cl a ρ h=.ok x h1)(eb:ev cl b ρ h1=.ok y h2)(ec:ev cl c ρ h2=.ok z h3)(ed:ev cl d ρ h3=.ok u h4)(e:cl n [x,y,z,u] h4=.ok w h'):ev cl (.call n (.cons a (.cons b (.cons c (.cons d .nil))))) ρ h=.ok w h':=by rw[ev,ev,ea,aD,ev,eb,aD,ev,ec,aD,ev,ed,aD,ev];exact e
theorem cy{cl:Call}{a b:E}{ρ:En}{h h1 h2:VH}{x y:W}(ea:ev cl a ρ h=.ok x h1)(eb:ev cl b ρ h1=.ok y h2):ev cl (.tup (.cons a (.cons b .nil))) ρ h=.ok (.tup [x,y]) h2:=by rw[ev,ev,ea,aD,ev,eb,aD,ev];rfl
theorem lW{cl:Call}{a b c:E}{ρ:En}{h h1 h2 h3:VH}{x y z:W}(ea:ev cl a ρ h=.ok x h1)(eb:ev cl b ρ h1=.ok y h2)(ec:ev cl c ρ h2=.ok z h3):ev cl (.tup (.cons a (.cons b (.cons c .nil)))) ρ h=.ok (.tup [x,y,z]) h3:=by rw[ev,ev,ea,aD,ev,eb,aD,ev,ec,aD,ev];rfl
noncomputable def bA:Option Nat->W|none=>.aI|some f=>.int f
noncomputable def dj(B:Bd)(ls:List Int)(f:Nat):Option Nat:=match outD B ls f with|.tup [_,.int i]=>aB i.toNat|_=>aC
theorem CH{B:Bd}{ls:List Int}{f:Nat}(b:B.Ok)(hf:f<B.fd.length)(hl:(ls.length:Int)=B.gr)(bi:dP ls):outD B ls f=.tup [nameP B ls f,bA (dj B ls f)]/\∀g,dj B ls f=aB g->g<B.fd.length:=by
 have q:=b.aX hf hl bi;unfold dj nameP;by_cases z:(B.aX ls f).st=true;have:outD B ls f=.tup [.aI,.aI]:=by unfold outD;rw[if_pos z]
 rw[this];exact⟨rfl,λg h=>by cases h⟩;have e:outD B ls f=B.door (dZ (B.col f) (B.aX ls f).cs):=by unfold outD;rw[if_neg z]
 obtain⟨_,d2⟩:=b.door q.c4.1 q.c4.2;obtain⟨x,y,de,_,_,hy⟩:=F2 d2;rw[e,de];rcases hy with rfl|⟨i,rfl,i0,i1⟩;exact⟨rfl,λg h=>by cases h⟩;refine⟨?_,λg h=>?_⟩;show W.tup [.int x,.int i]=.tup [.int x,.int (i.toNat:Int)];rw[Int.toNat_of_nonneg i0];have h:aB i.toNat=aB g:=h;cases h;lia
theorem PF{n:Nat}{fo:Option Nat}:W.lt n (bA fo)=true:=by cases fo<;>simp[bA]
theorem pB{cl:Call}{a b:E}{ρ:En}{h h1 h2:VH}{x y:W}(ea:ev cl a ρ h=.ok x h1)(eb:ev cl b ρ h1=.ok y h2):ev cl (.lst (.cons a (.cons b .nil))) ρ h=.ok (.ref h2.n) (h2.new (.lst [x,y])):=by rw[ev,ev,ea,aD,ev,eb,aD,ev];rfl
theorem cD{cl:Call}{c:E}{a b:S}{ρ:En}{h h1:VH}(e:ev cl c ρ h=.ok (.bl false) h1):exs cl (.ite c a b) ρ h=exs cl b ρ h1:=by rw[exs,e];rfl
theorem fM{cl:Call}{c:E}{a b:S}{ρ:En}{h h1:VH}(e:ev cl c ρ h=.ok (.bl true) h1):exs cl (.ite c a b) ρ h=exs cl a ρ h1:=by rw[exs,e];rfl
theorem kj{cl:Call}{a:E}{ρ:En}{h h1:VH}{b:Bool}(e:ev cl a ρ h=.ok (.bl b) h1):ev cl (.jb a) ρ h=.ok (.bl b) h1:=by rw[ev,e,aD];rfl
theorem iR{cl:Call}{a:E}{ρ:En}{h h1:VH}{x:W}(ea:ev cl a ρ h=.ok x h1):exs cl (.expr a) ρ h=.ok (.nx ρ) h1:=by rw[exs,ea,aD]
theorem PJ{P:Int->Prop}:∀{ws:List W},(∀w∈ws,∃x:Int,w=.int x/\P x)->∃xs:List Int,ws=xs.map .int/\∀x∈xs,P x
 |[],_=>⟨[],rfl,by simp⟩
 |w::r,h=>by
  obtain⟨x,rfl,hx⟩:=h w eX;obtain⟨xs,rfl,hs⟩:=PJ λw hw=>h w (eU _ hw);refine⟨x::xs,rfl,λy hy=>?_⟩;rcases eV.mp hy with rfl|hy;exact hx;exact hs y hy
section
variable{F:Nat->Option Fn}(C:CoreD F)
include C
theorem Z4{k:Nat}{h:VH}{d c b g:Nat}(JR:F 20=aB oV)(D:Dk h d c b)(hb:b+10<1000000000)(hg:g<=8) :
 ∃ls h',run F (k+4) 20 [.ref d,.int g] h=.ok (iW ls) h'/\ls.length=g/\dP ls/\Dk h' d c (b+10)/\bD h h' d c:=by
 rw[cA JR rfl];have D0:Dk ⟨h.n,h.n,h.os⟩ d c b:=D.lo;obtain⟨ws,h2,e2,p2,l2,D2,K2⟩:=yQ (cl:=run F (k+3)) (P:=λ_ w=>∃x:Int,w=.int x/\(x=0\/x=1)) (e:=FD) (tl:=[aB (.ref d)]) (m:=1) (lim:=g) (λi h b h0 hl D hb=>by
  obtain⟨r,h',e,r0,r1,D',K'⟩:=take C (k:=k) (m:=2) D (by lia) (by decide) (by decide);exact⟨.int r,h',by simp[FD,ev,e],⟨r,rfl,by lia⟩,D',K'⟩) g 0 aC ⟨h.n,h.n,h.os⟩ b (by lia) (by lia) D0 (by lia)
 obtain⟨ls,rfl,CI⟩:=PJ (Co p2);have e3:=F0 (cl:=run F (k+3)) (a:=.cons (.var 1) .nil) (ρ:=[aB (.ref d),aB (.int g)]) (h:=⟨h.n,h.n,h.os⟩) (ow:=1) (ix:=[0]) (e:=FD) (by simp[ev]) (by lia) e2 (by rw[l2];lia);obtain⟨h5,e5,D5,K5⟩:=sL (cl:=run F (k+3)) (fl:=.nx []) (w:=iW ls) (body:=oV.body) (ρ:=[aB (.ref d),aB (.int g)]) (F:=F) (k:=k+3) (h:=h) (h':=h2.new (.lst (ls.map .int))) (by simp only[oV,exs,e3,aD];rfl) (.inr ⟨b,D⟩) (D2.new.mono (show _<=b+10 by lia)) K2.new;exact⟨ls,h5,e5,by rw[bF]at l2;exact l2,CI,D5,K5⟩
end
structure wZ(F:Nat->Option Fn):Prop where
 xg:F 173=aB eL
 xh:F 174=aB kc
structure CoreY0(F:Nat->Option Fn):Prop where
 xg:F 173=aB eL
 xh:F 174=aB kc
 JS:F 175=aB uv
theorem uO{cl:Call}{i:Nat}{ρ:En}{h:VH}{x:W}(e:ρ[i]?=aB (aB x)):ev cl (.var i) ρ h=.ok x h:=by rw[ev,e];rfl
theorem CJ{cl:Call}{a b:E}{ρ:En}{h h1 h2:VH}{x y z:W}(ea:ev cl a ρ h=.ok x h1)(eb:ev cl b ρ h1=.ok y h2)(e:bx h2 x y=aB z):ev cl (.idx a b) ρ h=.ok z h2:=by rw[ev,ea,aD,eb,aD,e];rfl
theorem CK{cl:Call}{i:Nat}{a:E}{ρ:En}{h h1:VH}{x:W}(ea:ev cl a ρ h=.ok x h1):exs cl (.set i a) ρ h=.ok (.nx (ρ.set i (aB x))) h1:=by rw[exs,ea];rfl
theorem Z5{h:VH}{x:W}{r:List W}:bx h (.tup (x::r)) (.int 0)=aB x:=pY (j:=0) (xs:=x::r) rfl
theorem JT{h:VH}{i:Int}:cR h (.int i) .aI=aB false:=rfl
section
variable{F:Nat->Option Fn}(C:wZ F)
include C
theorem Z6{k:Nat}{h0:VH}{gs:List VO}{cs ts:List W}{ls:List Int}{w:W}{c wd hd:Int}(hm:fY w c wd (ls.length:Int)) :
 run F (k+1) 173 [w,.int hd,.ref (h0.n+2),.aI] (st3 h0 gs cs ts (ls.map .int))=match cu w hd ls with
  |none=>.ok .aI (st3 h0 gs cs ts (ls.map .int))
  |some (d,_,l)=>.ok (.int d) (st3 h0 gs cs ts (l.map .int)):=by
 rw[cA C.xg rfl];rcases F3 hm with⟨rfl,h3,h4⟩|⟨rfl,h3⟩|⟨rfl,h3⟩|rfl|rfl|⟨p,q,rfl,h3,h4,h5,h6⟩
 rw[F4];simp[eL,exs,ev,aQ,cU];rw[F5];simp[eL,exs,ev,aQ,cU];rw[F6];simp[eL,exs,ev,aQ,cU];rw[F7];simp[eL,exs,ev,aQ,cU];rw[F8];simp[eL,exs,ev,aQ,cU];rw[F9];have hp:p<ls.length:=by lia
 have e1:=Po hp;have g:VH.get ⟨(st3 h0 gs cs ts (ls.map .int)).n,(st3 h0 gs cs ts (ls.map .int)).n,(st3 h0 gs cs ts (ls.map .int)).os⟩ (h0.n+2)=aB (.lst (ls.map .int)):=by rw[bC];exact o9
 have e2:iw (ls.map W.int).length (p:Int)=aB p:=Pp (by rw[bF];exact hp);have e3:exs (run F k) eL.body [aB (.tup [.int p,.int q]),aB (.int hd),aB (.ref (h0.n+2)),aB .aI,aC,aC,aC] ⟨(st3 h0 gs cs ts (ls.map .int)).n,(st3 h0 gs cs ts (ls.map .int)).n,(st3 h0 gs cs ts (ls.map .int)).os⟩=.ok (.rt (.int (if ls.getD p 0=q then -1 else 1))) (VH.set ⟨(st3 h0 gs cs ts (ls.map .int)).n,(st3 h0 gs cs ts (ls.map .int)).n,(st3 h0 gs cs ts (ls.map .int)).os⟩ (h0.n+2) (.lst ((ls.set p (1-ls.getD p 0)).map .int))):=by
  rw[List.map_set];generalize ls.getD p 0=y at e1 ⊢;by_cases z:y=(q:Int)
  simp only[eL,exs,ev,bz,aN,gM,i6,ir,jg,aR,aD,lT,dO,oZ,fm,iB,gQ,bx,g,e1,ck,eF,e2,aQ,iN,JT,zk,z,decide_true,b9];simp only[eL,exs,ev,bz,aN,gM,i6,ir,jg,aR,aD,lT,dO,oZ,fm,iB,gQ,bx,g,e1,ck,eF,e2,aQ,iN,JT,zk,z,decide_false,dF]
 show fin _ (exs (run F k) eL.body [aB (.tup [.int p,.int q]),aB (.int hd),aB (.ref (h0.n+2)),aB .aI,aC,aC,aC] _)=_;rw[e3];exact ZJ
theorem Z7{k:Nat}{h0:VH}{b l f:W}{r:List W}{c wd hd:Int}{cs ts:List W}{ls:List Int}{y:Option W}(ok:(r.length:Int)=wd/\dh wd (ls.length:Int) 0 r)(c0:0<=c)(c1:c<wd)(hc:cs.length<=1000)(ht:ts.length<=1000) :
 exs (run F (k+1)) Ca [aB b,aB l,aB f,aB .aI,aB (.int c),aB (.ref h0.n),aB (.ref (h0.n+1)),aB (.ref (h0.n+2)),aB (.int hd),aB (.tup r),y] (st3 h0 [] cs ts (ls.map .int))=match cu (bT r c) hd ls with
  |none=>.ok (.bk [aB b,aB l,aB f,aB .aI,aB (.int c),aB (.ref h0.n),aB (.ref (h0.n+1)),aB (.ref (h0.n+2)),aB .aI,aB (.tup r),aB (bT r c)]) (st3 h0 [] cs ts (ls.map .int))
  |some (d,t,l')=>.ok (.nx [aB b,aB l,aB f,aB .aI,aB (.int (c+d)),aB (.ref h0.n),aB (.ref (h0.n+1)),aB (.ref (h0.n+2)),aB (.int d),aB (.tup r),aB (bT r c)]) (st3 h0 [] (cs++[.int (c+d)]) (ts++t.map .int) (l'.map .int)):=by
 obtain⟨_,hm⟩:=yS ok c0 c1;have e0:=Pq ok c0 c1;generalize bT r c=w at hm e0 ⊢;have e1:=Z6 C (k:=k) (h0:=h0) (gs:=[]) (cs:=cs) (ts:=ts) (hd:=hd) hm;unfold Ca;rw[aT (ρ':=[aB b,aB l,aB f,aB .aI,aB (.int c),aB (.ref h0.n),aB (.ref (h0.n+1)),aB (.ref (h0.n+2)),aB (.int hd),aB (.tup r),aB w]) (h':=st3 h0 [] cs ts (ls.map .int)) (CK (CJ (x:=.tup r) (y:=.int c) (uO rfl) (uO rfl) e0))];have key:∀(d:Int)(l':List Int)(t:List Int),cu w hd ls=aB (d,t,l')->exs (run F (k+1)) (.seq (.ite (.and (.jb (.nY .tuple (.var 10))) (.cmp .ne (.idx (.var 10) (.cst (.int (0)))) (.var 3))) (.seq (.expr (.mt .append (.var 6) (.cons (.idx (.var 10) (.cst (.int (0)))) .nil))) .skip) .skip) (.seq (.aug 4 .add (.var 8)) (.seq (.expr (.mt .append (.var 5) (.cons (.var 4) .nil))) .skip))) [aB b,aB l,aB f,aB .aI,aB (.int c),aB (.ref h0.n),aB (.ref (h0.n+1)),aB (.ref (h0.n+2)),aB (.int d),aB (.tup r),aB w] (st3 h0 [] cs ts (l'.map .int))=.ok (.nx [aB b,aB l,aB f,aB .aI,aB (.int (c+d)),aB (.ref h0.n),aB (.ref (h0.n+1)),aB (.ref (h0.n+2)),aB (.int d),aB (.tup r),aB w]) (st3 h0 [] (cs++[.int (c+d)]) (ts++t.map .int) (l'.map .int)):=by
  intro d l' t es;have fin:∀ts':List W,exs (run F (k+1)) (.seq (.aug 4 .add (.var 8)) (.seq (.expr (.mt .append (.var 5) (.cons (.var 4) .nil))) .skip)) [aB b,aB l,aB f,aB .aI,aB (.int c),aB (.ref h0.n),aB (.ref (h0.n+1)),aB (.ref (h0.n+2)),aB (.int d),aB (.tup r),aB w] (st3 h0 [] cs ts' (l'.map .int))=.ok (.nx [aB b,aB l,aB f,aB .aI,aB (.int (c+d)),aB (.ref h0.n),aB (.ref (h0.n+1)),aB (.ref (h0.n+2)),aB (.int d),aB (.tup r),aB w]) (st3 h0 [] (cs++[.int (c+d)]) ts' (l'.map .int)):=by intro ts';rw[aT (ρ':=[aB b,aB l,aB f,aB .aI,aB (.int (c+d)),aB (.ref h0.n),aB (.ref (h0.n+1)),aB (.ref (h0.n+2)),aB (.int d),aB (.tup r),aB w]) (h':=st3 h0 [] cs ts' (l'.map .int)) rfl];have ea:=wU (cl:=run F (k+1)) (i:=5) (l:=h0.n) (x:=.var 4) (ρ:=[aB b,aB l,aB f,aB .aI,aB (.int (c+d)),aB (.ref h0.n),aB (.ref (h0.n+1)),aB (.ref (h0.n+2)),aB (.int d),aB (.tup r),aB w]) (h:=st3 h0 [] cs ts' (l'.map .int)) (h1:=st3 h0 [] cs ts' (l'.map .int)) (w:=.int (c+d)) (acc:=cs) (kU:=cs) rfl m5 (by simp[ev]) m5 (by lia);rw[Pk]at ea;simp only[exs,ea,aD]
  rcases F3 hm with⟨rfl,h3,h4⟩|⟨rfl,h3⟩|⟨rfl,h3⟩|rfl|rfl|⟨p,q,rfl,h3,h4,h5,h6⟩;rw[F4]at es;cases es;rw[aT (ρ':=[aB b,aB l,aB f,aB .aI,aB (.int c),aB (.ref h0.n),aB (.ref (h0.n+1)),aB (.ref (h0.n+2)),aB (.int hd),aB (.tup r),aB (.str sX)]) (h':=st3 h0 [] cs ts (ls.map .int)) rfl,fin];simp;rw[F5]at es;cases es;rw[aT (ρ':=[aB b,aB l,aB f,aB .aI,aB (.int c),aB (.ref h0.n),aB (.ref (h0.n+1)),aB (.ref (h0.n+2)),aB (.int (-1)),aB (.tup r),aB (.str cC)]) (h':=st3 h0 [] cs ts (ls.map .int)) rfl,fin];simp;rw[F6]at es;cases es;rw[aT (ρ':=[aB b,aB l,aB f,aB .aI,aB (.int c),aB (.ref h0.n),aB (.ref (h0.n+1)),aB (.ref (h0.n+2)),aB (.int 1),aB (.tup r),aB (.str cH)]) (h':=st3 h0 [] cs ts (ls.map .int)) rfl,fin];simp;rw[F7]at es;cases es;rw[aT (ρ':=[aB b,aB l,aB f,aB .aI,aB (.int c),aB (.ref h0.n),aB (.ref (h0.n+1)),aB (.ref (h0.n+2)),aB (.int 0),aB (.tup r),aB (.str aP)]) (h':=st3 h0 [] cs ts (ls.map .int)) rfl,fin];simp;rw[F8]at es;cases es;rw[F9]at es;cases es;have ea:=wU (cl:=run F (k+1)) (i:=6) (l:=h0.n+1) (x:=.idx (.var 10) (.cst (.int 0))) (ρ:=[aB b,aB l,aB f,aB .aI,aB (.int c),aB (.ref h0.n),aB (.ref (h0.n+1)),aB (.ref (h0.n+2)),aB (.int (if ls.getD p 0=q then -1 else 1)),aB (.tup r),aB (.tup [.int p,.int q])]) (h:=st3 h0 [] cs ts ((ls.set p (1-ls.getD p 0)).map .int)) (h1:=st3 h0 [] cs ts ((ls.set p (1-ls.getD p 0)).map .int)) (w:=.int p) (acc:=ts) (kU:=ts) rfl m8 (by simp[ev,bx];rfl) m8 (by lia);rw[Pn]at ea;have eb:exs (run F (k+1)) (.ite (.and (.jb (.nY .tuple (.var 10))) (.cmp .ne (.idx (.var 10) (.cst (.int (0)))) (.var 3))) (.seq (.expr (.mt .append (.var 6) (.cons (.idx (.var 10) (.cst (.int (0)))) .nil))) .skip) .skip) [aB b,aB l,aB f,aB .aI,aB (.int c),aB (.ref h0.n),aB (.ref (h0.n+1)),aB (.ref (h0.n+2)),aB (.int (if ls.getD p 0=q then -1 else 1)),aB (.tup r),aB (.tup [.int p,.int q])] (st3 h0 [] cs ts ((ls.set p (1-ls.getD p 0)).map .int))=.ok (.nx [aB b,aB l,aB f,aB .aI,aB (.int c),aB (.ref h0.n),aB (.ref (h0.n+1)),aB (.ref (h0.n+2)),aB (.int (if ls.getD p 0=q then -1 else 1)),aB (.tup r),aB (.tup [.int p,.int q])]) (st3 h0 [] cs (ts++[.int p]) ((ls.set p (1-ls.getD p 0)).map .int)):=by
   rw[exs];have e5:ev (run F (k+1)) (.and (.jb (.nY .tuple (.var 10))) (.cmp .ne (.idx (.var 10) (.cst (.int (0)))) (.var 3))) [aB b,aB l,aB f,aB .aI,aB (.int c),aB (.ref h0.n),aB (.ref (h0.n+1)),aB (.ref (h0.n+2)),aB (.int (if ls.getD p 0=q then -1 else 1)),aB (.tup r),aB (.tup [.int p,.int q])] (st3 h0 [] cs ts ((ls.set p (1-ls.getD p 0)).map .int))=.ok (.bl true) (st3 h0 [] cs ts ((ls.set p (1-ls.getD p 0)).map .int)):=by simp[ev,Z5,aQ,JT]
   rw[e5,aD];simp only[exs,ea,aD]
  rw[aT eb,fin];rfl
 cases es:cu w hd ls with
 |none=>
  rw[es]at e1;rw[aT (ρ':=[aB b,aB l,aB f,aB .aI,aB (.int c),aB (.ref h0.n),aB (.ref (h0.n+1)),aB (.ref (h0.n+2)),aB .aI,aB (.tup r),aB w]) (h':=st3 h0 [] cs ts (ls.map .int)) (by simp only[exs,ev,i6,ir,jg,aR,aD,e1,iB,gQ])];exact ZK rfl
 |some q=>
  obtain⟨d,t,l'⟩:=q;rw[es]at e1;rw[aT (ρ':=[aB b,aB l,aB f,aB .aI,aB (.int c),aB (.ref h0.n),aB (.ref (h0.n+1)),aB (.ref (h0.n+2)),aB (.int d),aB (.tup r),aB w]) (h':=st3 h0 [] cs ts (l'.map .int)) (by simp only[exs,ev,i6,ir,jg,aR,aD,e1,iB,gQ])];rw[aT (ρ':=[aB b,aB l,aB f,aB .aI,aB (.int c),aB (.ref h0.n),aB (.ref (h0.n+1)),aB (.ref (h0.n+2)),aB (.int d),aB (.tup r),aB w]) (h':=st3 h0 [] cs ts (l'.map .int)) rfl];exact key d l' t es
theorem PK{k:Nat}{h0:VH}{b l f:W}{wd:Int}:∀(rs:List (List W)) (c hd:Int) (cs ts:List W) (ls:List Int) (x y:Option W),Cr wd (ls.length:Int) rs->0<=c->c<wd->-1<=hd->hd<=1->dP ls->cs.length+rs.length<=1000->ts.length+rs.length<=1000->
 ∃c' hd' x' y',forL (bz (.one 9)) (exs (run F (k+1)) Ca) (rs.map .tup) [aB b,aB l,aB f,aB .aI,aB (.int c),aB (.ref h0.n),aB (.ref (h0.n+1)),aB (.ref (h0.n+2)),aB (.int hd),x,y] (st3 h0 [] cs ts (ls.map .int)) =
  .ok (.nx [aB b,aB l,aB f,aB .aI,c',aB (.ref h0.n),aB (.ref (h0.n+1)),aB (.ref (h0.n+2)),hd',x',y']) (st3 h0 [] (cs++(aL rs c hd ls).cs.map .int) (ts++(aL rs c hd ls).ts.map .int) ((aL rs c hd ls).ls.map .int))
 |[],c,hd,cs,ts,ls,x,y,_,_,_,_,_,_,_,_=>⟨aB (.int c),aB (.int hd),x,y,by simp[forL,aL]⟩
 |r::rs,c,hd,cs,ts,ls,x,y,ok,c0,c1,h1,h2,bi,hc,ht=>by
  have hc':cs.length+rs.length+1<=1000:=by rw[dG]at hc;lia
  have ht':ts.length+rs.length+1<=1000:=by rw[dG]at ht;lia
  have eb:=Z7 C (k:=k) (h0:=h0) (b:=b) (l:=l) (f:=f) (hd:=hd) (cs:=cs) (ts:=ts) (y:=y) (ok r eX) c0 c1 (by lia) (by lia);obtain⟨_,hm⟩:=yS (ok r eX) c0 c1;cases e:cu (bT r c) hd ls with
  |none=>
   rw[e]at eb;rw[Ph e];refine⟨aB (.int c),aB .aI,aB (.tup r),aB (bT r c),?_⟩;simp only[dz,forL,bz,iB,gQ,eb,aD,nH,pT]
  |some q=>
   obtain⟨d,t,l'⟩:=q;rw[e]at eb;obtain⟨a1,a2,a3,a4,a5,a6,a7⟩:=JH hm c0 c1 h1 h2 bi e;obtain⟨c',hd',x',y',ih⟩:=PK (k:=k) (h0:=h0) (b:=b) (l:=l) (f:=f) rs (c+d) d (cs++[.int (c+d)]) (ts++t.map .int) l' (aB (.tup r)) (aB (bT r c)) (λr hr=>by rw[a5];exact ok r (eU _ hr)) a3 a4 a1 a2 a6 (by simp only[fS,kJ];lia) (by simp only[fS,bF];lia);rw[Pj e];refine⟨c',hd',x',y',?_⟩;simp only[dz,forL,bz,iB,gQ,eb,aD,ih,ni,vd,List.singleton_append]
theorem Z8{k:Nat}{h:VH}{B:Bd}{ls:List Int}{f:Nat}(b:B.Ok)(hf:f<B.fd.length)(hl:(ls.length:Int)=B.gr)(bi:dP ls):run F (k+2) 174 [B.w,iW ls,.int f,.aI] h=.ok (m9 B ls f) h:=by
 rw[cA C.xh rfl];obtain⟨e0,c0,c1⟩:=b.col hf;have hr:=b.r1;obtain⟨c',hd',x',y',el⟩:=PK C (k:=k) (h0:=h) (b:=B.w) (l:=iW ls) (f:=.int f) B.rows (B.col f) 0 [.int (B.col f)] [] ls aC aC (b.rows hl) c0 c1 (by decide) (by decide) bi (by rw[kJ];lia) (by rw[qw];lia);have e1:cz B.fd (f:Int)=aB (.int (B.col f)):=pY e0;have i3:cz [W.int B.wd,.int B.gr,.tup (B.rows.map .tup),.tup B.fd,.tup B.dr] 3=aB (.tup B.fd):=rfl;have i2:cz [W.int B.wd,.int B.gr,.tup (B.rows.map .tup),.tup B.fd,.tup B.dr] 2=aB (.tup (B.rows.map .tup)):=rfl;have hz:(B.rows.map W.tup).length<1000000:=by rw[bF];lia
 have eb:exs (run F (k+1)) kc.body [aB B.w,aB (iW ls),aB (.int f),aB .aI,aC,aC,aC,aC,aC,aC,aC] ⟨h.n,h.n,h.os⟩=.ok (.rt (m9 B ls f)) (st3 h [] (([.int (B.col f)]:List W)++(aL B.rows (B.col f) 0 ls).cs.map .int) (([]:List W)++(aL B.rows (B.col f) 0 ls).ts.map .int) ((aL B.rows (B.col f) 0 ls).ls.map .int)):=by
  show exs (run F (k+1)) (.seq _ _) _ _=_;rw[aT (ρ':=[aB B.w,aB (iW ls),aB (.int f),aB .aI,aB (.int (B.col f)),aC,aC,aC,aC,aC,aC]) (h':=⟨h.n,h.n,h.os⟩) (by unfold Bd.w;simp[exs,ev,bx,i3,e1])];rw[aT (ρ':=[aB B.w,aB (iW ls),aB (.int f),aB .aI,aB (.int (B.col f)),aB (.ref h.n),aC,aC,aC,aC,aC]) (h':=VH.new ⟨h.n,h.n,h.os⟩ (.lst [.int (B.col f)])) (by simp[exs,ev])];rw[aT (ρ':=[aB B.w,aB (iW ls),aB (.int f),aB .aI,aB (.int (B.col f)),aB (.ref h.n),aB (.ref (h.n+1)),aC,aC,aC,aC]) (h':=VH.new (VH.new ⟨h.n,h.n,h.os⟩ (.lst [.int (B.col f)])) (.lst [])) (by simp[exs,ev,VH.new])];rw[aT (ρ':=[aB B.w,aB (iW ls),aB (.int f),aB .aI,aB (.int (B.col f)),aB (.ref h.n),aB (.ref (h.n+1)),aB (.ref (h.n+2)),aC,aC,aC]) (h':=st3 h [] [.int (B.col f)] [] (ls.map .int)) (by unfold iW;simp[exs,ev,VH.new,gT,gS,aN,st3])];rw[aT (ρ':=[aB B.w,aB (iW ls),aB (.int f),aB .aI,aB (.int (B.col f)),aB (.ref h.n),aB (.ref (h.n+1)),aB (.ref (h.n+2)),aB (.int 0),aC,aC]) (h':=st3 h [] [.int (B.col f)] [] (ls.map .int)) (by simp[exs,ev])];have ei:ev (run F (k+1)) (.idx (.var 0) (.cst (.int (2)))) [aB B.w,aB (iW ls),aB (.int f),aB .aI,aB (.int (B.col f)),aB (.ref h.n),aB (.ref (h.n+1)),aB (.ref (h.n+2)),aB (.int 0),aC,aC] (st3 h [] [.int (B.col f)] [] (ls.map .int))=.ok (.tup (B.rows.map .tup)) (st3 h [] [.int (B.col f)] [] (ls.map .int)):=by unfold Bd.w;simp[ev,bx,i2]
  have ef:=wO (tg:=bz (.one 9)) (b:=exs (run F (k+1)) Ca) (ρ:=[aB B.w,aB (iW ls),aB (.int f),aB .aI,aB (.int (B.col f)),aB (.ref h.n),aB (.ref (h.n+1)),aB (.ref (h.n+2)),aB (.int 0),aC,aC]) (h:=st3 h [] [.int (B.col f)] [] (ls.map .int)) hz;rw[el]at ef;refine(aT (by rw[exs,ei,aD,ef])).trans ?_;have et:=JL (cl:=run F (k+1)) (yX (i:=5) (ρ:=[aB B.w,aB (iW ls),aB (.int f),aB .aI,c',aB (.ref h.n),aB (.ref (h.n+1)),aB (.ref (h.n+2)),hd',x',y']) rfl (m5 (h:=h) (gs:=[]) (c:=([.int (B.col f)]:List W)++(aL B.rows (B.col f) 0 ls).cs.map .int) (t:=([]:List W)++(aL B.rows (B.col f) 0 ls).ts.map .int) (l:=(aL B.rows (B.col f) 0 ls).ls.map .int))) (yX (i:=6) rfl m8) (yX (i:=7) rfl o9);simp only[exs,et,aD];rfl
 show fin h (exs (run F (k+1)) kc.body [aB B.w,aB (iW ls),aB (.int f),aB .aI,aC,aC,aC,aC,aC,aC,aC] ⟨h.n,h.n,h.os⟩)=_;rw[eb];exact cU (bq _) ZL
end
section
variable{F:Nat->Option Fn}(C:CoreY0 F)
include C
theorem Z9{k:Nat}{h:VH}{B:Bd}{ls:List Int}{f:Nat}(b:B.Ok)(hf:f<B.fd.length)(hl:(ls.length:Int)=B.gr)(bi:dP ls):run F (k+2) 174 [B.w,iW ls,.int f,.aI] h=.ok (m9 B ls f) h:=Z8 ⟨C.xg,C.xh⟩ b hf hl bi
noncomputable def gV(B:Bd)(ls:List Int)(f:Nat):W:=if(B.aX ls f).st then .aI else .int (dZ (B.col f) (B.aX ls f).cs)
theorem zmu{k:Nat}{h:VH}{B:Bd}{ls:List Int}{f:Nat}(b:B.Ok)(hf:f<B.fd.length)(hl:(ls.length:Int)=B.gr)(bi:dP ls):run F (k+3) 175 [B.w,iW ls,.int f,.aI] h=.ok (.tup [gV B ls f,iW (B.aX ls f).ls]) h:=by
 rw[cA C.JS rfl];have e1:=Z9 C (k:=k) (h:=⟨h.n,h.n,h.os⟩) b hf hl bi;have q:=b.aX hf hl bi;have i2:cz [W.int B.wd,.int B.gr,.tup (B.rows.map .tup),.tup B.fd,.tup B.dr] 2=aB (.tup (B.rows.map .tup)):=rfl;have e2:exs (run F (k+2)) (.lH [4,5,6] (.call 174 (.cons (.var 0) (.cons (.var 1) (.cons (.var 2) (.cons (.var 3) .nil)))))) [aB B.w,aB (iW ls),aB (.int f),aB .aI,aC,aC,aC,aC] ⟨h.n,h.n,h.os⟩=.ok (.nx [aB B.w,aB (iW ls),aB (.int f),aB .aI,aB (iW (B.col f:: (B.aX ls f).cs)),aB (iW (B.aX ls f).ts),aB (iW (B.aX ls f).ls),aC]) ⟨h.n,h.n,h.os⟩:=by simp only[exs,ev,i6,ir,jg,aR,aD,e1,m9,bz,aN,gM,iB,gQ,dO]
 have e3:ev (run F (k+2)) (.cmp .gt (.bi .len (.cons (.var 4) .nil)) (.bi .len (.cons (.idx (.var 0) (.cst (.int (2)))) .nil))) [aB B.w,aB (iW ls),aB (.int f),aB .aI,aB (iW (B.col f:: (B.aX ls f).cs)),aB (iW (B.aX ls f).ts),aB (iW (B.aX ls f).ls),aC] ⟨h.n,h.n,h.os⟩=.ok (.bl (!(B.aX ls f).st)) ⟨h.n,h.n,h.os⟩:=by
  have:decide ((B.rows.length:Int)< ((B.aX ls f).cs.length:Int)+1)=!(B.aX ls f).st:=by
   cases z:(B.aX ls f).st with|true=>have:=q.c5 z;exact fE (by lia)|false=>have:=q.c3 z;exact gg (by lia)
  unfold Bd.w iW;simp[ev,gT,fK,aN,bx,i2,aQ,fJ,this]
 have el:=Pu (cs:=(B.aX ls f).cs) (c:=B.col f);show fin h (exs (run F (k+2)) (.seq (.lH [4,5,6] (.call 174 (.cons (.var 0) (.cons (.var 1) (.cons (.var 2) (.cons (.var 3) .nil)))))) _) [aB B.w,aB (iW ls),aB (.int f),aB .aI,aC,aC,aC,aC] ⟨h.n,h.n,h.os⟩)=_;rw[aT e2];have e4:ev (run F (k+2)) (.idx (.var 4) (.neg (.cst (.int (1))))) [aB B.w,aB (iW ls),aB (.int f),aB .aI,aB (iW (B.col f:: (B.aX ls f).cs)),aB (iW (B.aX ls f).ts),aB (iW (B.aX ls f).ls),aC] ⟨h.n,h.n,h.os⟩=.ok (.int (dZ (B.col f) (B.aX ls f).cs)) ⟨h.n,h.n,h.os⟩:=by unfold iW;simp only[ev,i6,ir,jg,aR,aD,bx,el]
 have e5:exs (run F (k+2)) (.set 7 (.ite (.cmp .gt (.bi .len (.cons (.var 4) .nil)) (.bi .len (.cons (.idx (.var 0) (.cst (.int (2)))) .nil))) (.idx (.var 4) (.neg (.cst (.int (1))))) (.cst .aI))) [aB B.w,aB (iW ls),aB (.int f),aB .aI,aB (iW (B.col f:: (B.aX ls f).cs)),aB (iW (B.aX ls f).ts),aB (iW (B.aX ls f).ls),aC] ⟨h.n,h.n,h.os⟩=.ok (.nx [aB B.w,aB (iW ls),aB (.int f),aB .aI,aB (iW (B.col f:: (B.aX ls f).cs)),aB (iW (B.aX ls f).ts),aB (iW (B.aX ls f).ls),aB (gV B ls f)]) ⟨h.n,h.n,h.os⟩:=by
  unfold gV;rw[exs,ev,e3];cases z:(B.aX ls f).st with|true=>rfl|false=>simp only[zk,aD,e4];rfl
 rw[aT e5];simp only[exs];rw[JM (x:=gV B ls f) (y:=iW (B.aX ls f).ls) rfl rfl];refine cU (bq _) ?_;unfold gV;split<;>simp[lV]
end
noncomputable abbrev aY:=List Int×Option Nat
noncomputable def aG(s:aY):W:=.tup [iW s.1,bA s.2]
noncomputable def qk(s:aY):DK:=(s.1,s.2.map λ(f:Nat)=>(f:Int))
theorem JU:∀ls:List Int,aW intD (ls.map .int)=aB ls
 |[]=>rfl
 |x::ls=>by
  have h:=JU ls;rw[dz];unfold aW;simp only[intD,h]
theorem CL(s:aY):dX (aG s)=aB (qk s):=by
 obtain⟨ls,fo⟩:=s;cases fo with|none=>simp[aG,iW,bA,dX,JU,qk]|some f=>simp[aG,iW,bA,dX,JU,qk]
theorem zwc{s t:aY}(h:qk s=qk t):s=t:=by obtain⟨ls,fo⟩:=s;obtain⟨ms,go⟩:=t;unfold qk at h;have h1:=ku Prod.fst h;have h2:=ku Prod.snd h;simp only at h1 h2;subst h1;cases fo<;>cases go<;>simp at h2 ⊢;lia
theorem Gi{n:Nat}{s:aY}:W.lt n (aG s)=true:=by unfold aG;simp[lV,PF]
noncomputable def br(B:Bd)(s:aY):Prop:=(s.1.length:Int)=B.gr/\dP s.1/\∀f,s.2=aB f->f<B.fd.length
noncomputable def aV(B:Bd)(s:aY):Option aY:=match s.2 with|none=>aC|some f=>aB ((B.aX s.1 f).ls,dj B s.1 f)
theorem xj{B:Bd}{s t:aY}(b:B.Ok)(h:br B s)(e:aV B s=aB t):br B t:=by
 obtain⟨ls,fo⟩:=s;obtain⟨hl,bi,hf⟩:=h;cases fo with
 |none=>cases e
 |some f=>
  cases e;have hf:=hf f rfl;have q:=b.aX hf hl bi;exact⟨by rw[q.l1];exact hl,q.l2,(CH b hf hl bi).2⟩
noncomputable def cM(s:aY):Nat->List aY->Option Nat|_,[]=>aC|i,x::xs=>if x=s then aB i else cM s (i+1) xs
theorem yY{s:aY}:∀{xs:List aY} {i:Nat},cM s i xs=aC->s∉xs
 |[],_,_=>λh=>nomatch h
 |x::xs,i,e=>by
  unfold cM at e;split at e;cases e;rename_i hx;intro h;rcases eV.mp h with rfl|h
  exact hx rfl;exact yY e h
theorem JV(a:Int)(n:Nat):dY a (n+1)=.int a::dY (a+1) n:=rfl
theorem Gj{s:aY}:∀(xs:List aY) (i:Nat),dM (xs.map aG) (dY (i:Int) xs.length) (qk s)=(cM s i xs).map λ(n:Nat)=>.int (n:Int)
 |[],i=>by unfold dM cM;rfl
 |x::xs,i=>by
  rw[dz,dG,JV];unfold dM cM;rw[CL];by_cases e:x=s;rw[if_pos (by rw[e]),if_pos e];rfl;rw[if_neg (λz=>e (zwc (jN z))),if_neg e];have:=Gj (s:=s) xs (i+1);rw[show((i:Int)+1)=((i+1:Nat):Int) by lia];exact this
theorem JW:∀(n:Nat) (a:Int),dY a n++[.int (a+n)]=dY a (n+1)
 |0,a=>by show [W.int (a+0)]=[W.int a];rw[Int.add_zero]
 |n+1,a=>by
  rw[JV,JV a (n+1),nD];have:=JW n (a+1);rw[show a+ ((n+1:Nat):Int)=a+1+ (n:Int) by lia,this]
noncomputable def aH(B:Bd):Nat->List aY->Option aY->List aY×Option Nat
 |0,seen,_=>(seen,aC)
 |_+1,seen,aC=>(seen,aC)
 |n+1,seen,aB s=>match cM s 0 seen with
  |some i=>(seen,aB i)
  |none=>aH B n (seen++[s]) (aV B s)
theorem JX{α:Type}[DecidableEq α]:∀{l m:List α},l.Nodup->(∀x∈l,x∈m)->l.length<=m.length
 |[],m,_,_=>gX _
 |x::l,m,nd,h=>by
  have hx:=h x eX;obtain⟨h1,h2⟩:=tu.mp nd;have:=JX (m:=m.erase x) h2 λy hy=>(List.mem_erase_of_ne (show y≠x from λz=>h1 (z▸hy))).mpr (h y (eU _ hy));rw[List.length_erase_of_mem hx]at this;have:0<m.length:=List.length_pos_of_mem hx;rw[dG];lia
noncomputable def xm:Nat->List (List Int)|0=>[[]]|n+1=>(xm n).map (0 :: ·)++(xm n).map (1 :: ·)
theorem PL:∀n,(xm n).length=2 ^ n
 |0=>rfl
 |n+1=>by
  unfold xm;rw[fS,bF,bF,PL n,Nat.pow_succ];lia
theorem PM:∀{ls:List Int},dP ls->ls∈xm ls.length
 |[],_=>i7.mpr rfl
 |x::ls,b=>by
  have:=PM (ls:=ls) λy hy=>b y (eU _ hy);rw[dG];unfold xm;rcases b x eX with rfl|rfl
  exact zf _ (jh.mpr ⟨ls,this,rfl⟩);exact l8 _ (jh.mpr ⟨ls,this,rfl⟩)
noncomputable def xo(fs:List (Option Nat)):List (List Int)->List aY|[]=>[]|l::ls=>fs.map (λf=>(l,f))++xo fs ls
theorem PN(fs:List (Option Nat)):∀ls,(xo fs ls).length=ls.length*fs.length
 |[]=>by simp[xo]
 |l::ls=>by
  unfold xo;rw[fS,bF,PN fs ls,dG,Nat.add_mul];lia
theorem PR{fs:List (Option Nat)}{f:Option Nat}(hf:f∈fs){l:List Int}:∀{ls},l∈ls->(l,f)∈xo fs ls
 |x::ls,h=>by
  unfold xo;rcases eV.mp h with rfl|h
  exact zf _ (jh.mpr ⟨f,hf,rfl⟩);exact l8 _ (PR hf h)
theorem few{B:Bd}(b:B.Ok){xs:List aY}(nd:xs.Nodup)(g:∀s∈xs,br B s):xs.length<=1280:=by
 have h:=JX (m:=xo [aC,aB 0,aB 1,aB 2,aB 3] (xm B.gr.toNat)) nd λs hs=>by
  obtain⟨hl,bi,hf⟩:=g s hs;obtain⟨ls,fo⟩:=s;have e:B.gr.toNat=ls.length:=by simp only at hl;lia
  refine PR ?_ (by rw[e];exact PM bi);cases fo with
  |none=>simp
  |some f=>
   have:=hf f rfl;have:=b.f2;have:f=0\/f=1\/f=2\/f=3:=by lia
   rcases this with rfl|rfl|rfl|rfl<;>simp
 rw[PN,PL]at h;have h8:B.gr.toNat<=8:=by have:=b.g2;lia
 have:2 ^ B.gr.toNat<=2 ^ 8:=Nat.pow_le_pow_right (by decide) h8;have e5:([aC,aB 0,aB 1,aB 2,aB 3]:List (Option Nat)).length=5:=rfl;rw[e5]at h;lia
theorem Gk{B:Bd}(b:B.Ok):∀(n:Nat) (xs:List aY) (c:Option aY),xs.Nodup->(∀s∈xs,br B s)->(∀s,c=aB s->br B s)->(aH B n xs c).1.Nodup/\∀s∈(aH B n xs c).1,br B s
 |0,xs,c,nd,g,_=>⟨nd,g⟩
 |n+1,xs,aC,nd,g,_=>⟨nd,g⟩
 |n+1,xs,aB s,nd,g,gc=>by
  unfold aH;split;exact⟨nd,g⟩;rename_i e;have hs:=yY e;refine Gk b n (xs++[s]) (aV B s) ?_ ?_ λt ht=>xj b (gc s rfl) ht;rw[ve];exact⟨nd,by simp,λa ha b hb=>by rw[i7.mp hb];exact λz=>hs (z▸ha)⟩;intro t ht;rcases nh.mp ht with ht|ht
  exact g t ht;rw[i7.mp ht];exact gc s rfl
structure jw(F:Nat->Option Fn):Prop extends CoreY0 F where
 f17:F 17=aB wD
 f27:F 27=aB rS
 f29:F 29=aB wF
 JY:F 176=aB lN
 JZ:F 182=aB lO
 J0:F 184=aB lP
section
variable{F:Nat->Option Fn}(C:jw F)
include C
theorem PU{k:Nat}{h:VH}{B:Bd}{ls:List Int}{f:Nat}(b:B.Ok)(hf:f<B.fd.length)(hl:(ls.length:Int)=B.gr)(bi:dP ls):run F (k+4) 176 [B.w,iW ls,.int f,.aI] h=.ok (.tup [outD B ls f,iW (B.aX ls f).ls]) h:=by
 rw[cA C.JY rfl];have e1:=zmu C.toCoreY0 (k:=k) (h:=⟨h.n,h.n,h.os⟩) b hf hl bi;have q:=b.aX hf hl bi;obtain⟨a1,a2⟩:=b.door q.c4.1 q.c4.2;have e2:exs (run F (k+3)) (.lH [4,5] (.call 175 (.cons (.var 0) (.cons (.var 1) (.cons (.var 2) (.cons (.var 3) .nil)))))) [aB B.w,aB (iW ls),aB (.int f),aB .aI,aC,aC,aC] ⟨h.n,h.n,h.os⟩=.ok (.nx [aB B.w,aB (iW ls),aB (.int f),aB .aI,aB (gV B ls f),aB (iW (B.aX ls f).ls),aC]) ⟨h.n,h.n,h.os⟩:=by simp only[exs,ev,i6,ir,jg,aR,aD,e1,bz,aN,gM,iB,gQ,dO]
 have i4:bx ⟨h.n,h.n,h.os⟩ B.w (.int 4)=aB (.tup B.dr):=rfl;have e3:ev (run F (k+3)) (.ite (.cmp .ja (.var 4) (.cst .aI)) (.cst (.tup [.aI,.aI])) (.idx (.idx (.var 0) (.cst (.int (4)))) (.var 4))) [aB B.w,aB (iW ls),aB (.int f),aB .aI,aB (gV B ls f),aB (iW (B.aX ls f).ls),aC] ⟨h.n,h.n,h.os⟩=.ok (outD B ls f) ⟨h.n,h.n,h.os⟩:=by
  unfold gV outD;cases z:(B.aX ls f).st with
  |true=>simp[ev,aQ,bB]
  |false=>
   have i5:bx ⟨h.n,h.n,h.os⟩ (.tup B.dr) (.int (dZ (B.col f) (B.aX ls f).cs))=aB (B.door (dZ (B.col f) (B.aX ls f).cs)):=a1;simp[ev,aQ,bB,i4,i5]
 show fin h (exs (run F (k+3)) lN.body [aB B.w,aB (iW ls),aB (.int f),aB .aI,aC,aC,aC] ⟨h.n,h.n,h.os⟩)=_;have eb:exs (run F (k+3)) lN.body [aB B.w,aB (iW ls),aB (.int f),aB .aI,aC,aC,aC] ⟨h.n,h.n,h.os⟩=.ok (.rt (.tup [outD B ls f,iW (B.aX ls f).ls])) ⟨h.n,h.n,h.os⟩:=by refine(aT e2).trans ?_;refine(aT (bJ e3)).trans ?_;exact cQ (bS (cy (aE rfl) (aE rfl)))
 rw[eb];refine cU (bq _) ?_;obtain⟨oe,_⟩:=CH b hf hl bi;rw[oe];simp[lV,PF,Pw b hf hl bi]
noncomputable def iS(B:Bd)(s:aY):W:=match aV B s with|none=>.aI|some t=>aG t
omit C in
theorem zsj{B:Bd}{s:aY}{n:Nat}:W.lt n (iS B s)=true:=by unfold iS;split;simp;exact Gi
theorem PV{k:Nat}{h:VH}{B:Bd}{s:aY}(b:B.Ok)(g:br B s):run F (k+5) 182 [B.w,aG s] h=.ok (iS B s) h:=by
 rw[cA C.JZ rfl];obtain⟨ls,fo⟩:=s;obtain⟨hl,bi,hf⟩:=g;have e1:exs (run F (k+4)) (.lH [2,3] (.var 1)) [aB B.w,aB (aG (ls,fo)),aC,aC,aC,aC] ⟨h.n,h.n,h.os⟩=.ok (.nx [aB B.w,aB (aG (ls,fo)),aB (iW ls),aB (bA fo),aC,aC]) ⟨h.n,h.n,h.os⟩:=by simp only[aG,exs,ev,i6,ir,jg,aR,aD,bz,aN,gM,iB,gQ,dO]
 show fin h (exs (run F (k+4)) lO.body [aB B.w,aB (aG (ls,fo)),aC,aC,aC,aC] ⟨h.n,h.n,h.os⟩)=_;have eb:exs (run F (k+4)) lO.body [aB B.w,aB (aG (ls,fo)),aC,aC,aC,aC] ⟨h.n,h.n,h.os⟩=.ok (.rt (iS B (ls,fo))) ⟨h.n,h.n,h.os⟩:=by
  refine(aT e1).trans ?_;cases fo with
  |none=>
   refine cQ ?_;rw[fM (h1:=⟨h.n,h.n,h.os⟩) (by simp[ev,aQ,bB,bA])];exact cQ (bS (by simp[ev,iS,aV]))
  |some f=>
   have hf:=hf f rfl;obtain⟨oe,og⟩:=CH b hf hl bi;have e2:=PU C (k:=k) (h:=⟨h.n,h.n,h.os⟩) b hf hl bi;refine(aT (ρ':=[aB B.w,aB (aG (ls,aB f)),aB (iW ls),aB (bA (aB f)),aC,aC]) (h':=⟨h.n,h.n,h.os⟩) ?_).trans ?_;rw[cD (h1:=⟨h.n,h.n,h.os⟩) (by simp[ev,aQ,bB,bA])];rfl;have e3:exs (run F (k+4)) (.lH [4,5] (.call 176 (.cons (.var 0) (.cons (.var 2) (.cons (.var 3) (.cons (.cst .aI) .nil)))))) [aB B.w,aB (aG (ls,aB f)),aB (iW ls),aB (bA (aB f)),aC,aC] ⟨h.n,h.n,h.os⟩=.ok (.nx [aB B.w,aB (aG (ls,aB f)),aB (iW ls),aB (bA (aB f)),aB (outD B ls f),aB (iW (B.aX ls f).ls)]) ⟨h.n,h.n,h.os⟩:=by have ED:run F (k+4) 176 [B.w,iW ls,bA (aB f),.aI] ⟨h.n,h.n,h.os⟩=.ok (.tup [outD B ls f,iW (B.aX ls f).ls]) ⟨h.n,h.n,h.os⟩:=e2;simp only[exs,ev,i6,ir,jg,aR,aD,ED,bz,aN,gM,iB,gQ,dO]
   refine(aT e3).trans (cQ (bS ?_));have e4:ev (run F (k+4)) (.idx (.var 4) (.cst (.int (1)))) [aB B.w,aB (aG (ls,aB f)),aB (iW ls),aB (bA (aB f)),aB (outD B ls f),aB (iW (B.aX ls f).ls)] ⟨h.n,h.n,h.os⟩=.ok (bA (dj B ls f)) ⟨h.n,h.n,h.os⟩:=by refine bY (aE rfl) rfl ?_;rw[oe];rfl
   exact cy (aE rfl) e4
 rw[eb];exact cU (bq _) zsj
end
section
variable{F:Nat->Option Fn}(C:jw F)(B':ju F)
include C B'
theorem J2{k:Nat}{h:VH}{B:Bd}{s:aY}(b:B.Ok)(g:br B s):run F (k+9) 29 [B.w,aG s] h=.ok .aI h:=by
 obtain⟨ls,fo⟩:=s;obtain⟨hl,bi,hf⟩:=g;have hg:=b.g2;have w0:∀h:VH,run F (k+7) 17 [iW ls,.int B.gr] h=.ok (.bl true) h:=by
  intro h;rw[cA C.f17 rfl];have e:=OS B'.toCoreA (k:=k+3) (h:=⟨h.n,h.n,h.os⟩) (w:=iW ls) (a:=B.gr) (b:=B.gr) (lo:=0) (hi:=1) (by unfold Kn iW;simp) (λws e=>by
   cases e;refine⟨by rw[bF];simp only at hl;lia,λx hx=>?_⟩;obtain⟨y,_,rfl⟩:=jh.mp hx;unfold Kn;simp)
  rw[ZM hl bi]at e;simp[wD,exs,ev,e,cU]
 have wf:∀h:VH,run F (k+7) 12 [bA fo,.int B.fd.length] h=.ok (.bl true) h:=by
  intro h;rw[OV B' (k:=k+4) (w:=bA fo) (n:=B.fd.length) (by cases fo<;> (unfold Kn bA;simp))];have:sI (bA fo) B.fd.length=true:=by
   cases fo with
   |none=>rfl
   |some f=>
    have:=hf f rfl;simp only[bA,sI,bB,within,Bool.false_or,bM,gH];lia
  rw[this]
 have w1:∀h:VH,run F (k+8) 27 [B.w,.tup [iW ls,bA fo]] h=.ok (.bl true) h:=by
  intro h;rw[cA C.f27 rfl];have e:=Zj B' (k:=k) (h:=⟨h.n,h.n,h.os⟩) b;have e6:=qh B'.toCoreA (k:=k+6) (h:=⟨h.n,h.n,h.os⟩) (w:=.tup [iW ls,bA fo]) (lo:=2) (hi:=2) (by unfold Kn;simp);have t6:gF (.tup [iW ls,bA fo]) 2 2=true:=rfl;rw[t6]at e6;have i1:bx ⟨h.n,h.n,h.os⟩ B.w (.int 1)=aB (.int B.gr):=rfl;have i3:bx ⟨h.n,h.n,h.os⟩ B.w (.int 3)=aB (.tup B.fd):=rfl;have eb:exs (run F (k+7)) rS.body [aB B.w,aB (.tup [iW ls,bA fo]),aC,aC] ⟨h.n,h.n,h.os⟩=.ok (.rt (.bl true)) ⟨h.n,h.n,h.os⟩:=by refine(aT (ρ':=[aB B.w,aB (.tup [iW ls,bA fo]),aC,aC]) (h':=⟨h.n,h.n,h.os⟩) (by simp[exs,ev,e])).trans ?_;refine(aT (ρ':=[aB B.w,aB (.tup [iW ls,bA fo]),aC,aC]) (h':=⟨h.n,h.n,h.os⟩) (by simp[exs,ev,e6])).trans ?_;refine(aT (ρ':=[aB B.w,aB (.tup [iW ls,bA fo]),aB (iW ls),aB (bA fo)]) (h':=⟨h.n,h.n,h.os⟩) (by simp[exs,ev,bz,aN,gM])).trans ?_;refine cQ (bS ?_);rw[ev,fL (aE rfl) (bY (aE rfl) rfl i1) (w0 _),aD];exact fL (aE rfl) (ic (bY (aE rfl) rfl i3) rfl) (wf _)
  show fin h (exs (run F (k+7)) rS.body [aB B.w,aB (.tup [iW ls,bA fo]),aC,aC] ⟨h.n,h.n,h.os⟩)=_;rw[eb];exact cU (bq _) (by simp)
 rw[cA C.f29 rfl];have w2:run F (k+8) 27 [B.w,aG (ls,fo)] ⟨h.n,h.n,h.os⟩=.ok (.bl true) ⟨h.n,h.n,h.os⟩:=w1 _;simp[wF,exs,ev,w2,OM]
end
noncomputable def dQ(h:VH)(xs:List aY):VH:=⟨h.n+1,h.n,.dt (xs.map aG) (dY 0 xs.length)::h.os⟩
theorem ql{h:VH}{xs:List aY}:(dQ h xs).get h.n=aB (.dt (xs.map aG) (dY 0 xs.length)):=cY (h:=h)
theorem PX{h:VH}{xs:List aY}{s:aY}:(dQ h xs).set h.n (.dt (xs.map aG++[aG s]) (dY 0 xs.length++[.int xs.length]))=dQ h (xs++[s]):=by
 have e:=JW xs.length 0;rw[DS]at e;unfold VH.set dQ;simp only[qj (bq h.n),ni,dz,nH,fS,dG,qw,e];have:h.n+1-1-h.n=0:=by lia
 rw[this];rfl
noncomputable def bU:Option aY->W|none=>.aI|some s=>aG s
theorem PY{B:Bd}{s:aY}:iS B s=bU (aV B s):=by unfold iS bU;cases aV B s<;>rfl
noncomputable def aK:Option Nat->W|none=>.aI|some i=>.int (i:Int)
theorem lX{h:VH}{a:Nat}{xs:List aY}{s:aY}(g:h.get a=aB (.dt (xs.map aG) (dY 0 xs.length))):j5 h (aG s) (.ref a)=aB (cM s 0 xs).isSome:=by
 have e:aN h (.ref a)=aC:=by simp[aN,g]
 have:dM (xs.map aG) (dY 0 xs.length) (qk s)=_:=Gj (s:=s) xs 0;unfold j5;rw[e];simp only[inD,g,CL,this];cases cM s 0 xs<;>rfl
theorem J4{h:VH}{a:Nat}{xs:List aY}{s:aY}{i:Nat}(g:h.get a=aB (.dt (xs.map aG) (dY 0 xs.length)))(e:cM s 0 xs=aB i):bx h (.ref a) (aG s)=aB (.int (i:Int)):=by have:dM (xs.map aG) (dY 0 xs.length) (qk s)=_:=Gj (s:=s) xs 0;show rE h a (aG s)=_;simp only[rE,g,CL,this,e];rfl
theorem PZ{cl:Call}{ρ:En}{h:VH}{i a:Nat}{xs:List aY}(ki:ρ[i]?=aB (aB (.ref a)))(g:h.get a=aB (.dt (xs.map aG) (dY 0 xs.length))):ev cl (.bi .len (.cons (.var i) .nil)) ρ h=.ok (.int xs.length) h:=by
 have e:aN h (.ref a)=aC:=by simp[aN,g]
 have hv:ev cl (.cons (.var i) .nil) ρ h=.ok (.tup [.ref a]) h:=by rw[ev,aE ki,aD,ev];rfl
 rw[ev,hv,aD];show fK [.ref a] h=_;simp only[fK,e,jl,g,dO,aR,bF]
theorem zwd{cl:Call}{ρ:En}{h:VH}{i a:Nat}{xs:List aY}(ki:ρ[i]?=aB (aB (.ref a)))(g:h.get a=aB (.dt (xs.map aG) (dY 0 xs.length))):ev cl (.bi .tuple (.cons (.var i) .nil)) ρ h=.ok (.tup (xs.map aG)) h:=by
 have e:aN h (.ref a)=aC:=by simp[aN,g]
 have hv:ev cl (.cons (.var i) .nil) ρ h=.ok (.tup [.ref a]) h:=by rw[ev,aE ki,aD,ev];rfl
 rw[ev,hv,aD];show om [.ref a] h=_;simp only[om,e,jl,g,dO,aR]
theorem xq{cl:Call}{o i v:E}{ρ:En}{h h1 h2 h3:VH}{a:Nat}{w:W}{xs:List aY}{s:aY}(ev1:ev cl v ρ h=.ok w h1)(ev2:ev cl o ρ h1=.ok (.ref a) h2)(ev3:ev cl i ρ h2=.ok (aG s) h3)(g:h3.get a=aB (.dt (xs.map aG) (dY 0 xs.length)))(hn:cM s 0 xs=aC)(hl:xs.length<=100000) :
 exs cl (.put o i v) ρ h=.ok (.nx ρ) (h3.set a (.dt (xs.map aG++[aG s]) (dY 0 xs.length++[w]))):=by
 have:dM (xs.map aG) (dY 0 xs.length) (qk s)=_:=Gj (s:=s) xs 0;rw[hn]at this;rw[exs,ev1,aD,ev2,aD,ev3,aD];show putD ρ a (aG s) w h3=_;have hb:Nat.blt (xs.map aG).length big=true:=F1 (by rw[bF];lia);simp only[putD,g,CL,this,hb];rfl
theorem Gm{s:aY}:bB (aG s)=false:=rfl
section
variable{F:Nat->Option Fn}(C:jw F)
include C
theorem P0{k:Nat}{h:VH}{B:Bd}{s0:W}(b:B.Ok):∀(n fu:Nat) (xs:List aY) (c:Option aY) (x:Option W),n<fu->1281<=n+xs.length->xs.Nodup->(∀s∈xs,br B s)->(∀s,c=aB s->br B s)->
 ∃c',bR (ev (run F (k+5)) wJ) (exs (run F (k+5)) yM) fu [aB B.w,aB s0,aB (.ref h.n),aB (bU c),x] (dQ h xs)=.ok (.nx [aB B.w,aB s0,aB (.ref h.n),aB (bU c'),x]) (dQ h (aH B n xs c).1)/\
  ((c'=aC/\(aH B n xs c).2=aC)\/∃s i,c'=aB s/\(aH B n xs c).2=aB i/\cM s 0 (aH B n xs c).1=aB i)
 |n,0,xs,c,x,hn,_,_,_,_=>by lia
 |0,fu+1,xs,c,x,_,hN,nd,g,_=>by have:=few b nd g;lia
 |n+1,fu+1,xs,aC,x,hn,hN,nd,g,gc=>by
  refine⟨aC,?_,.inl ⟨rfl,rfl⟩⟩;have ec:ev (run F (k+5)) wJ [aB B.w,aB s0,aB (.ref h.n),aB (bU aC),x] (dQ h xs)=.ok (.bl false) (dQ h xs):=by simp[wJ,ev,aQ,bB,bU]
  rw[bR,ec,aD];rfl
 |n+1,fu+1,xs,aB s,x,hn,hN,nd,g,gc=>by
  have hin:=lX (s:=s) (ql (h:=h) (xs:=xs));have ec:ev (run F (k+5)) wJ [aB B.w,aB s0,aB (.ref h.n),aB (bU (aB s)),x] (dQ h xs)=.ok (.bl (!(cM s 0 xs).isSome)) (dQ h xs):=by
   unfold wJ;rw[ev];have e1:ev (run F (k+5)) (.cmp .gK (.var 3) (.cst .aI)) [aB B.w,aB s0,aB (.ref h.n),aB (bU (aB s)),x] (dQ h xs)=.ok (.bl true) (dQ h xs):=by simp[ev,aQ,yN,bU,Gm]
   rw[e1,aD];show ev (run F (k+5)) (.cmp .rD (.var 3) (.var 2)) _ _=_;simp[ev,aQ,bU,hin]
  cases hp:cM s 0 xs with
  |some i=>
   refine⟨aB s,?_,.inr ⟨s,i,rfl,by simp only[aH,hp],by simp only[aH,hp]⟩⟩;rw[hp]at ec;rw[bR,ec,aD];simp only[aH,hp];rfl
  |none=>
   rw[hp]at ec;have hfew:=few b nd g;have gs:=gc s rfl;obtain⟨c',ih,hc'⟩:=P0 (k:=k) (h:=h) (s0:=s0) b n fu (xs++[s]) (aV B s) x (by lia) (by rw[fS,kJ];lia)
    (by
      rw[ve];exact⟨nd,by simp,λa ha b hb=>by rw[i7.mp hb];exact λz=>yY hp (z▸ha)⟩)
    (λt ht=>by
      rcases nh.mp ht with ht|ht;exact g t ht;rw[i7.mp ht];exact gs) (λt ht=>xj b gs ht)
   have e1:=xq (cl:=run F (k+5)) (o:=.var 2) (i:=.var 3) (v:=.bi .len (.cons (.var 2) .nil)) (ρ:=[aB B.w,aB s0,aB (.ref h.n),aB (bU (aB s)),x]) (h:=dQ h xs) (a:=h.n) (xs:=xs) (s:=s) (PZ rfl ql) (aE rfl) (aE rfl) ql hp (by lia);rw[PX]at e1;have e2:=PV C (k:=k) (h:=dQ h (xs++[s])) b gs;rw[PY]at e2;have eb:exs (run F (k+5)) yM [aB B.w,aB s0,aB (.ref h.n),aB (bU (aB s)),x] (dQ h xs)=.ok (.nx [aB B.w,aB s0,aB (.ref h.n),aB (bU (aV B s)),x]) (dQ h (xs++[s])):=by unfold yM;refine(aT e1).trans ?_;refine(aT (bJ (fL (aE rfl) (aE rfl) e2))).trans ?_;rfl
   refine⟨c',?_,?_⟩;rw[bR,ec,aD];show Res.bind (exs (run F (k+5)) yM _ _) _=_;rw[eb,aD];show bR _ _ fu _ _=_;rw[ih];simp only[aH,hp];simp only[aH,hp];exact hc'
end
section
variable{F:Nat->Option Fn}(C:jw F)(B':ju F)
include C B'
theorem zsk{k:Nat}{h:VH}{B:Bd}{s:aY}(b:B.Ok)(g:br B s):run F (k+10) 184 [B.w,aG s] h=.ok (.tup [.tup ((aH B 1281 [] (aB s)).1.map aG),aK (aH B 1281 [] (aB s)).2]) h:=by
 rw[cA C.J0 rfl];have e0:=J2 C B' (k:=k) (h:=⟨h.n,h.n,h.os⟩) b g;obtain⟨c',el,hc'⟩:=P0 C (k:=k+4) (h:=h) (s0:=aG s) b 1281 fuel [] (aB s) aC (by decide) (by decide) xQ (λ_ h=>nomatch h) (λt ht=>by cases ht;exact g);generalize aH B 1281 [] (aB s)=E at el hc' ⊢;have e1:exs (run F (k+9)) (.set 2 (.nt .nil)) [aB B.w,aB (aG s),aC,aC,aC] ⟨h.n,h.n,h.os⟩=.ok (.nx [aB B.w,aB (aG s),aB (.ref h.n),aC,aC]) (dQ h []):=by simp only[exs,ev,aD,oq];rw[if_pos (by decide)];rfl
 have e4:ev (run F (k+9)) (.ite (.cmp .ja (.var 3) (.cst .aI)) (.cst .aI) (.idx (.var 2) (.var 3))) [aB B.w,aB (aG s),aB (.ref h.n),aB (bU c'),aC] (dQ h E.1)=.ok (aK E.2) (dQ h E.1):=by
  rcases hc' with⟨rfl,e⟩|⟨t,i,rfl,e,ep⟩;rw[e];simp[ev,aQ,bB,bU,aK];rw[e,ev];have:ev (run F (k+9)) (.cmp .ja (.var 3) (.cst .aI)) [aB B.w,aB (aG s),aB (.ref h.n),aB (bU (aB t)),aC] (dQ h E.1)=.ok (.bl false) (dQ h E.1):=by simp[ev,aQ,yN,bU,Gm]
  rw[this,aD];exact bY (aE rfl) (aE rfl) (J4 ql ep)
 show fin h (exs (run F (k+9)) lP.body [aB B.w,aB (aG s),aC,aC,aC] ⟨h.n,h.n,h.os⟩)=_;have eb:exs (run F (k+9)) lP.body [aB B.w,aB (aG s),aC,aC,aC] ⟨h.n,h.n,h.os⟩=.ok (.rt (.tup [.tup (E.1.map aG),aK E.2])) (dQ h E.1):=by refine(aT (iR (fL (aE rfl) (aE rfl) e0))).trans ?_;refine(aT e1).trans ?_;refine(aT (bJ (aE rfl))).trans ?_;refine(aT (show exs (run F (k+9)) (.n9 wJ yM) _ _=_ from el)).trans ?_;refine(aT (bJ e4)).trans ?_;exact cQ (bS (cy (zwd rfl ql) (aE rfl)))
 rw[eb];refine cU (bq _) ?_;have h1:W.kN h.n (E.1.map aG)=true:=PB λw hw=>by
  obtain⟨t,_,rfl⟩:=jh.mp hw;exact Gi
 have h2:W.lt h.n (aK E.2)=true:=by cases E.2<;>simp[aK]
 simp[h1,h2]
end
structure pC(F:Nat->Option Fn):Prop extends CoreL F where
 J5:F 112=aB lK
 J6:F 117=aB lM
section
variable{F:Nat->Option Fn}(C:pC F)
include C
theorem P4{k:Nat}{h:VH}{B:Bd}{ls:List Int}{f:Nat}(b:B.Ok)(hf:f<B.fd.length)(hl:(ls.length:Int)=B.gr)(bi:dP ls) :
 run F (k+2) 117 [B.w,aG (ls,aB f)] h=.ok (.tup [nameP B ls f,aG ((B.aX ls f).ls,dj B ls f)]) h:=by
 rw[cA C.J6 rfl];obtain⟨c1,c2,c3⟩:=b.col hf;obtain⟨i,h1,e1,g1,w1⟩:=Z2 C.toCoreL (k:=k) (h:=⟨h.n,h.n,h.os⟩) (B:=B) (ls:=ls) (bq _) c1 c2 c3 (b.rows hl) b.r1 bi;have q:=b.aX hf hl bi;obtain⟨oe,og⟩:=CH b hf hl bi;have e2:exs (run F (k+1)) (.lH [2,3,4,5] (.call 38 (.cons (.var 0) (.cons (.idx (.var 1) (.cst (.int (0)))) (.cons (.idx (.var 1) (.cst (.int (1)))) .nil))))) [aB B.w,aB (aG (ls,aB f)),aC,aC,aC,aC,aC,aC] ⟨h.n,h.n,h.os⟩ =
  .ok (.nx [aB B.w,aB (aG (ls,aB f)),aB (iW (B.col f:: (B.aX ls f).cs)),aB (iW (B.aX ls f).ts),aB (iW (B.aX ls f).ls),aB (.bl (B.aX ls f).st),aC,aC]) h1:=by
  have e3:=pA (cl:=run F (k+1)) (ρ:=[aB B.w,aB (aG (ls,aB f)),aC,aC,aC,aC,aC,aC]) (h:=⟨h.n,h.n,h.os⟩) (n:=38) (a:=.var 0) (b:=.idx (.var 1) (.cst (.int (0)))) (c:=.idx (.var 1) (.cst (.int (1)))) (aE rfl) (bY (aE rfl) rfl (show bx _ (aG (ls,aB f)) (.int 0)=aB (iW ls)from rfl)) (bY (aE rfl) rfl (show bx _ (aG (ls,aB f)) (.int 1)=aB (.int f)from rfl)) e1;rw[exs,e3,aD];simp only[bz,aN,g1,gM,iB,gQ,dO,aR];rfl
 show fin h (exs (run F (k+1)) lM.body [aB B.w,aB (aG (ls,aB f)),aC,aC,aC,aC,aC,aC] ⟨h.n,h.n,h.os⟩)=_;have hb:exs (run F (k+1)) lM.body [aB B.w,aB (aG (ls,aB f)),aC,aC,aC,aC,aC,aC] ⟨h.n,h.n,h.os⟩=.ok (.rt (.tup [nameP B ls f,aG ((B.aX ls f).ls,dj B ls f)])) h1:=by
  refine(aT e2).trans ?_;cases z:(B.aX ls f).st with
  |true=>
   have ho:outD B ls f=.tup [.aI,.aI]:=by unfold outD;rw[if_pos z]
   rw[ho]at oe;simp only[W.tup.injEq,Eg,and_true]at oe;obtain⟨o1,o2⟩:=oe;refine cQ ?_;rw[fM (h1:=h1) (by simp[ev,fV])];refine(cQ (w:=.tup [.aI,.tup [iW (B.aX ls f).ls,.aI]]) (h':=h1) (bS (cy (h1:=h1) rfl (cy (aE rfl) rfl)))).trans ?_;rw[<-o1];unfold aG;rw[<-o2]
  |false=>
   have ho:outD B ls f=B.door (dZ (B.col f) (B.aX ls f).cs):=by unfold outD;rw[z];rfl
   obtain⟨a1,a2⟩:=b.door q.c4.1 q.c4.2;refine(aT (ρ':=[aB B.w,aB (aG (ls,aB f)),aB (iW (B.col f:: (B.aX ls f).cs)),aB (iW (B.aX ls f).ts),aB (iW (B.aX ls f).ls),aB (.bl false),aC,aC]) (h':=h1) ?_).trans ?_;rw[cD (h1:=h1) (by simp[ev,fV])];rfl;have el:=Pu (cs:=(B.aX ls f).cs) (c:=B.col f);have e4:ev (run F (k+1)) (.idx (.idx (.var 0) (.cst (.int (4)))) (.idx (.var 2) (.neg (.cst (.int (1)))))) [aB B.w,aB (aG (ls,aB f)),aB (iW (B.col f:: (B.aX ls f).cs)),aB (iW (B.aX ls f).ts),aB (iW (B.aX ls f).ls),aB (.bl false),aC,aC] h1=.ok (.tup [nameP B ls f,bA (dj B ls f)]) h1:=by rw[<-oe,ho];exact bY (bY (aE rfl) rfl (show bx h1 B.w (.int 4)=aB (.tup B.dr)from rfl)) (bY (aE rfl) rfl (show bx h1 (iW (B.col f:: (B.aX ls f).cs)) (.int (-1))=_ from el)) a1
   refine(aT (ρ':=[aB B.w,aB (aG (ls,aB f)),aB (iW (B.col f:: (B.aX ls f).cs)),aB (iW (B.aX ls f).ts),aB (iW (B.aX ls f).ls),aB (.bl false),aB (nameP B ls f),aB (bA (dj B ls f))]) (h':=h1) ?_).trans ?_;rw[exs,e4,aD];simp only[bz,aN,gM,iB,gQ,dO,aR];exact cQ (bS (cy (aE rfl) (cy (aE rfl) (aE rfl))))
 rw[hb];exact ZE (n:=0) w1 λm=>by
  have h1:=Gi (n:=m) (s:=((B.aX ls f).ls,dj B ls f));have h2:=Pw b hf hl bi m;simp[h1,h2]
noncomputable def cG(h:VH)(xs:List aY)(ns:List W):VH:=⟨h.n+3,h.n,.lst ns :: .dt (xs.map aG) (dY 0 xs.length) :: .lst (xs.map aG)::h.os⟩
omit C in
theorem lY{h:VH}{xs:List aY}{ns:List W}:(cG h xs ns).get h.n=aB (.lst (xs.map aG)):=by unfold VH.get cG;rw[if_pos (fD.mpr (show h.n<h.n+3 by lia)),show h.n+3-1-h.n=2 by lia];rfl
omit C in
theorem lZ{h:VH}{xs:List aY}{ns:List W}:(cG h xs ns).get (h.n+1)=aB (.dt (xs.map aG) (dY 0 xs.length)):=by unfold VH.get cG;rw[if_pos (fD.mpr (show h.n+1<h.n+3 by lia)),show h.n+3-1- (h.n+1)=1 by lia];rfl
omit C in
theorem pD{h:VH}{xs:List aY}{ns:List W}:(cG h xs ns).get (h.n+2)=aB (.lst ns):=by unfold VH.get cG;rw[if_pos (fD.mpr (show h.n+2<h.n+3 by lia)),show h.n+3-1- (h.n+2)=0 by lia];rfl
omit C in
theorem zsl{h:VH}{xs:List aY}{ns ms:List W}:(cG h xs ns).set (h.n+2) (.lst ms)=cG h xs ms:=by unfold VH.set cG;simp only[qj (show h.n<=h.n+2 by lia)];rw[show h.n+3-1- (h.n+2)=0 by lia];rfl
omit C in
theorem zwe{h:VH}{xs:List aY}{ns:List W}{s:aY}:(((cG h xs ns).set (h.n+1) (.dt (xs.map aG++[aG s]) (dY 0 xs.length++[.int xs.length]))).set h.n (.lst (xs.map aG++[aG s])))=cG h (xs++[s]) ns:=by have e:=JW xs.length 0;rw[DS]at e;unfold VH.set cG;simp only[qj (show h.n<=h.n+1 by lia),eW,dF,qj (bq h.n),ni,dz,nH,fS,dG,qw,e];rw[show h.n+3-1- (h.n+1)=1 by lia,show h.n+3-1-h.n=2 by lia];rfl
omit C in
theorem P5{h:VH}{xs:List aY}{ns:List W}{o:VO}:((cG h xs ns).set (h.n+1) o).get h.n=aB (.lst (xs.map aG)):=by rw[o4 lZ (by lia)];exact lY
omit C in
theorem P6{h:VH}{xs:List aY}{ns:List W}{s:aY}(e:xs.getLast?=aB s){cl:Call}{ρ:En}(ki:ρ[2]?=aB (aB (.ref h.n))):ev cl (.idx (.var 2) (.neg (.cst (.int (1))))) ρ (cG h xs ns)=.ok (aG s) (cG h xs ns):=by
 refine bY (aE ki) rfl ?_;have hl:xs.length≠0:=λz=>by rw[List.length_eq_zero_iff.mp z]at e;cases e
 have:cz (xs.map aG) (-1)=aB (aG s):=by unfold cz iw;rw[bF,if_neg (by decide),if_pos (by lia)];rw[DA]at e;show(xs.map aG)[((xs.length:Int) + -1).toNat]?=_;rw[show((xs.length:Int) + -1).toNat=xs.length-1 by lia,iC,e];rfl
 simp only[bx,lY];exact this
end
theorem zwf{h:VH}{xs:List aY}{ns:List W}{i:Nat}(hi:i<h.n):(cG h xs ns).get i=h.get i:=by unfold VH.get cG;rw[if_pos (fD.mpr (show i<h.n+3 by lia)),if_pos (fD.mpr hi),show h.n+3-1-i=(h.n-1-i)+3 by lia];rfl
theorem zmv{B:Bd}{s:aY}(n:Nat):aH B (n+1) [] (aB s)=aH B n [s] (aV B s):=rfl
structure Gx(h h':VH):Prop where
 le:h.n<=h'.n
 lo:h.lo=h.n->h'.lo=h.n
 get:∀i o,h.get i=aB o->h'.get i=aB o
noncomputable def bO:Nat->W->Bool|_,.int _=>true|_,.aI=>true|n+1,.tup ws=>Nat.ble ws.length 5000&&ws.all (bO n)|_,_=>false
theorem CM{cl:Call}{a:E}{ρ:En}{h h1:VH}{j:Nat}{n:Nat}(ea:ev cl a ρ h=.ok (.ref j) h1)(g:h1.get j=aB (.lst (bf n (.bl true)))):ev cl (.bi .all (.cons a .nil)) ρ h=.ok (.bl true) h1:=by
 have hm:aW tW (bf n (W.bl true))=aB (bf n true):=by
  clear g;induction n with|zero=>rfl|succ n ih=>simp only[qq,aW,tW,ih]
 have ha:(bf n true).all id=true:=by rw[lq];intro x hx;exact(DI.mp hx).2
 rw[ev,ev,ea,aD,ev,aD,aD];show mO [.ref j] h1=_;simp only[mO,g,hm,dO,ha,aR]
theorem J7{cl:Call}{e:E}:∀(ws:List W) (x y:Option W) (h:VH),(∀w∈ws,∀h,ev cl e [aB w,aB w] h=.ok (.bl true) h)->je (bz (.many [0,1])) (λ_ h=>.ok (.bl true) h) (ev cl e) (iQ ws ws) [x,y] h=.ok (bf ws.length (.bl true)) h
 |[],x,y,h,_=>rfl
 |a::ws,x,y,h,hs=>by
  have e1:=hs a eX h;have e2:=J7 (e:=e) ws (aB a) (aB a) h λw hw=>hs w (eU _ hw);show je _ _ _ (.tup [a,a]::iQ ws ws) _ _=_;simp only[je,bz,aN,gM,List.set,aD,e1,e2];rfl
structure CoreM(F:Nat->Option Fn):Prop where
 f39:F 39=aB wG
 J8:F 92=aB mX
section
variable{F:Nat->Option Fn}(C:CoreM F)
include C
theorem zsm:∀(n:Nat) {k:Nat} {h:VH} {w:W},bO n w=true->run F (k+n+2) 92 [w,w] h=.ok (.bl true) h:=by
 have hint:∀{k:Nat}{h:VH}{i:Int},run F (k+2) 92 [.int i,.int i] h=.ok (.bl true) h:=by
  intro k h i;have e1:∀h,run F (k+1) 39 [.int i,.int i] h=.ok (.bl true) h:=by intro h;rw[cA C.f39 rfl];simp[wG,exs,ev,aQ,iN,cU]
  rw[cA C.J8 rfl];simp[mX,exs,ev,fV,aQ,bB,e1,cU]
 have ko:∀{k:Nat}{h:VH},run F (k+2) 92 [.aI,.aI] h=.ok (.bl true) h:=by intro k h;rw[cA C.J8 rfl];simp[mX,exs,ev,fV,aQ,bB,cU]
 intro n;induction n with
 |zero=>
  intro k h w hw;cases w<;>simp only[bO]at hw<;>first|exact hint|exact ko|cases hw
 |succ n ih=>
  intro k h w hw;cases w<;>simp only[bO]at hw<;>first|(exact hint (k:=k+n+1))|(exact ko (k:=k+n+1))|(cases hw;done)|skip
  rename_i ws;rw[bM]at hw;have hlen:=lu hw.1;have hall:=lq.mp hw.2;rw[show k+ (n+1)+2=(k+n+2)+1 by lia,cA C.J8 rfl];have hz:(iQ ws ws).length<1000000:=by unfold iQ;rw[List.length_zipWith];lia
  have e1:=J7 (cl:=run F (k+n+2)) (e:=Jr) ws aC aC ⟨h.n,h.n,h.os⟩ λw hw h=>fL (aE rfl) (aE rfl) (ih (k:=k) (hall w hw))
  have e2:=PD (cl:=run F (k+n+2)) (a:=.cons (.var 0) (.cons (.var 1) .nil)) (ρ:=[aB (.tup ws),aB (.tup ws)]) (h:=⟨h.n,h.n,h.os⟩) (h1:=⟨h.n,h.n,h.os⟩) (ow:=2) (ix:=[]) (e:=Jr) (t:=.many [0,1]) rfl hz e1 (by rw[ze];lia);have e3:=CM e2 cY;have e4:ev (run F (k+n+2)) (.or (.not (.jb (.nY .tuple (.var 0)))) (.cmp .ne (.bi .len (.cons (.var 0) .nil)) (.bi .len (.cons (.var 1) .nil)))) [aB (.tup ws),aB (.tup ws)] ⟨h.n,h.n,h.os⟩=.ok (.bl false) ⟨h.n,h.n,h.os⟩:=by simp[ev,gT,fK,aN,aQ,iN,fV]
  have e5:ev (run F (k+n+2)) (.jb (.nY .tuple (.var 1))) [aB (.tup ws),aB (.tup ws)] ⟨h.n,h.n,h.os⟩=.ok (.bl true) ⟨h.n,h.n,h.os⟩:=by simp[ev,fV]
  have eb:exs (run F (k+n+2)) mX.body [aB (.tup ws),aB (.tup ws)] ⟨h.n,h.n,h.os⟩=.ok (.rt (.bl true)) (VH.new ⟨h.n,h.n,h.os⟩ (.lst (bf ws.length (.bl true)))):=by refine cQ ?_;rw[fM e5];refine(aT (ρ':=[aB (.tup ws),aB (.tup ws)]) (h':=⟨h.n,h.n,h.os⟩) ?_).trans (cQ (bS e3));rw[cD e4];rfl
  show fin h (exs (run F (k+n+2)) mX.body [aB (.tup ws),aB (.tup ws)] ⟨h.n,h.n,h.os⟩)=_;rw[eb];exact cU (bq _) (by simp)
end
noncomputable def iz(B:Bd)(s:aY):W:=match s.2 with|none=>.aI|some f=>nameP B s.1 f
noncomputable def gG(B:Bd)(xs:List aY):List W:=xs.dropLast.map (iz B)
theorem P7{α:Type}:∀{xs:List α} {x:α},xs.getLast?=aB x->xs.dropLast++[x]=xs
 |[],_,h=>by cases h
 |[y],x,h=>by cases h;rfl
 |y::z::xs,x,h=>by
  have:=P7 (xs:=z::xs) (x:=x) (by simpa using h);rw[List.dropLast_cons₂,nD,this]
theorem zwg{B:Bd}{xs:List aY}{ls:List Int}{f:Nat}(h:xs.getLast?=aB (ls,aB f)):gG B xs++[nameP B ls f]=xs.map (iz B):=by
 have e:xs.dropLast++[(ls,aB f)]=xs:=P7 h;unfold gG
 conv=>rhs;rw[<-e]
 rw[ni];rfl
theorem zwh{B:Bd}{xs:List aY}{t:aY}:gG B (xs++[t])=xs.map (iz B):=by unfold gG;rw[List.dropLast_concat]
section
variable{F:Nat->Option Fn}(C:pC F)
include C
theorem P8{k:Nat}{h:VH}{B:Bd}{s0:W}(b:B.Ok):∀(n fu:Nat) (xs:List aY) (s:aY) (x y:Option W),n<fu->1281<=n+xs.length->xs.Nodup->(∀s∈xs,br B s)->xs.getLast?=aB s->
 ∃x' y',(bR (ev (run F (k+2)) rT) (exs (run F (k+2)) mY) fu [aB B.w,aB s0,aB (.ref h.n),aB (.ref (h.n+1)),aB (.ref (h.n+2)),x,y] (cG h xs (gG B xs))=.ok (.nx [aB B.w,aB s0,aB (.ref h.n),aB (.ref (h.n+1)),aB (.ref (h.n+2)),x',y']) (cG h (aH B n xs (aV B s)).1 (gG B (aH B n xs (aV B s)).1))/\(aH B n xs (aV B s)).2=aC)\/
  ∃i,(aH B n xs (aV B s)).2=aB i/\bR (ev (run F (k+2)) rT) (exs (run F (k+2)) mY) fu [aB B.w,aB s0,aB (.ref h.n),aB (.ref (h.n+1)),aB (.ref (h.n+2)),x,y] (cG h xs (gG B xs))=.ok (.rt (.ref (h.n+3))) ((cG h (aH B n xs (aV B s)).1 ((aH B n xs (aV B s)).1.map (iz B))).new (.lst [.ref h.n,.ref (h.n+2),.int (i:Int)]))
 |n,0,xs,s,x,y,hn,_,_,_,_=>by lia
 |0,fu+1,xs,s,x,y,_,hN,nd,g,_=>by have:=few b nd g;lia
 |n+1,fu+1,xs,s,x,y,hn,hN,nd,g,hs=>by
  obtain⟨ls,fo⟩:=s;have hmem:(ls,fo)∈xs:=List.mem_of_getLast? hs;obtain⟨hl,bi,hf⟩:=g _ hmem;have hfew:=few b nd g;have e0:ev (run F (k+2)) (.idx (.idx (.var 2) (.neg (.cst (.int (1))))) (.cst (.int (1)))) [aB B.w,aB s0,aB (.ref h.n),aB (.ref (h.n+1)),aB (.ref (h.n+2)),x,y] (cG h xs (gG B xs))=.ok (bA fo) (cG h xs (gG B xs)):=bY (P6 hs rfl) rfl rfl;have ec:ev (run F (k+2)) rT [aB B.w,aB s0,aB (.ref h.n),aB (.ref (h.n+1)),aB (.ref (h.n+2)),x,y] (cG h xs (gG B xs))=.ok (.bl (!bB (bA fo))) (cG h xs (gG B xs)):=by unfold rT;rw[ev,e0,aD];simp[ev,aQ,yN]
  cases fo with
  |none=>
   refine⟨x,y,.inl ⟨?_,rfl⟩⟩;rw[bR,ec,aD];rfl
  |some f=>
   have hf:=hf f rfl;have gt:br B ((B.aX ls f).ls,dj B ls f):=xj b (s:=(ls,aB f)) ⟨hl,bi,λ_ e=>by cases e;exact hf⟩ rfl;have e1:=P4 C (k:=k) (h:=cG h xs (gG B xs)) b hf hl bi;generalize ht:((B.aX ls f).ls,dj B ls f)=t at e1 gt;have J9:aV B (ls,aB f)=aB t:=by rw[<-ht];rfl
   have e2:exs (run F (k+2)) (.lH [5,6] (.call 117 (.cons (.var 0) (.cons (.idx (.var 2) (.neg (.cst (.int (1))))) .nil)))) [aB B.w,aB s0,aB (.ref h.n),aB (.ref (h.n+1)),aB (.ref (h.n+2)),x,y] (cG h xs (gG B xs))=.ok (.nx [aB B.w,aB s0,aB (.ref h.n),aB (.ref (h.n+1)),aB (.ref (h.n+2)),aB (nameP B ls f),aB (aG t)]) (cG h xs (gG B xs)):=by rw[exs,fL (aE rfl) (P6 hs rfl) e1,aD];simp only[bz,aN,gM,iB,gQ,dO,aR]
   have e3:=wU (cl:=run F (k+2)) (i:=4) (l:=h.n+2) (x:=.var 5) (ρ:=[aB B.w,aB s0,aB (.ref h.n),aB (.ref (h.n+1)),aB (.ref (h.n+2)),aB (nameP B ls f),aB (aG t)]) (h:=cG h xs (gG B xs)) (h1:=cG h xs (gG B xs)) (w:=nameP B ls f) (acc:=gG B xs) (kU:=gG B xs) rfl pD rfl pD (by unfold gG;rw[bF,List.length_dropLast];lia);rw[zsl,zwg hs]at e3;have hin:=lX (s:=t) (lZ (h:=h) (xs:=xs) (ns:=xs.map (iz B)));have e4:ev (run F (k+2)) (.cmp .mK (.var 6) (.var 3)) [aB B.w,aB s0,aB (.ref h.n),aB (.ref (h.n+1)),aB (.ref (h.n+2)),aB (nameP B ls f),aB (aG t)] (cG h xs (xs.map (iz B)))=.ok (.bl (cM t 0 xs).isSome) (cG h xs (xs.map (iz B))):=by simp[ev,aQ,hin]
   rw[J9];cases hp:cM t 0 xs with
   |some i=>
    have hev:aH B (n+1) xs (aB t)=(xs,aB i):=by simp only[aH,hp]
    rw[hev];refine⟨x,y,.inr ⟨i,rfl,?_⟩⟩;rw[hp]at e4;have eb:exs (run F (k+2)) mY [aB B.w,aB s0,aB (.ref h.n),aB (.ref (h.n+1)),aB (.ref (h.n+2)),x,y] (cG h xs (gG B xs))=.ok (.rt (.ref (h.n+3))) ((cG h xs (xs.map (iz B))).new (.lst [.ref h.n,.ref (h.n+2),.int (i:Int)])):=by unfold mY;refine(aT e2).trans ?_;refine(aT (iR e3)).trans ?_;refine cQ ?_;rw[fM e4];refine cQ (bS ?_);have e5:ev (run F (k+2)) (.idx (.var 3) (.var 6)) [aB B.w,aB s0,aB (.ref h.n),aB (.ref (h.n+1)),aB (.ref (h.n+2)),aB (nameP B ls f),aB (aG t)] (cG h xs (xs.map (iz B)))=.ok (.int (i:Int)) (cG h xs (xs.map (iz B))):=bY (aE rfl) (aE rfl) (J4 lZ hp);rw[ev,ev,aE (x:=.ref h.n) rfl,aD,ev,aE (x:=.ref (h.n+2)) rfl,aD,ev,e5,aD,ev];rfl
    rw[bR,ec];show Res.bind (exs (run F (k+2)) mY _ _) _=_;rw[eb];rfl
   |none=>
    rw[hp]at e4;have hev:aH B (n+1) xs (aB t)=aH B n (xs++[t]) (aV B t):=by simp only[aH,hp]
    rw[hev];have eb:exs (run F (k+2)) mY [aB B.w,aB s0,aB (.ref h.n),aB (.ref (h.n+1)),aB (.ref (h.n+2)),x,y] (cG h xs (gG B xs))=.ok (.nx [aB B.w,aB s0,aB (.ref h.n),aB (.ref (h.n+1)),aB (.ref (h.n+2)),aB (nameP B ls f),aB (aG t)]) (cG h (xs++[t]) (xs.map (iz B))):=by
     unfold mY;refine(aT e2).trans ?_;refine(aT (iR e3)).trans ?_;refine(aT (ρ':=[aB B.w,aB s0,aB (.ref h.n),aB (.ref (h.n+1)),aB (.ref (h.n+2)),aB (nameP B ls f),aB (aG t)]) (h':=cG h xs (xs.map (iz B))) ?_).trans ?_;rw[cD e4];rfl;have e6:=xq (cl:=run F (k+2)) (o:=.var 3) (i:=.var 6) (v:=.bi .len (.cons (.var 2) .nil)) (ρ:=[aB B.w,aB s0,aB (.ref h.n),aB (.ref (h.n+1)),aB (.ref (h.n+2)),aB (nameP B ls f),aB (aG t)]) (h:=cG h xs (xs.map (iz B))) (a:=h.n+1) (w:=.int xs.length) (xs:=xs) (s:=t)
      (by
        have:=ic (cl:=run F (k+2)) (a:=.var 2) (ρ:=[aB B.w,aB s0,aB (.ref h.n),aB (.ref (h.n+1)),aB (.ref (h.n+2)),aB (nameP B ls f),aB (aG t)]) (h:=cG h xs (xs.map (iz B))) (x:=.ref h.n) (ws:=xs.map aG) (aE rfl) (by simp only[aN,lY]);rw[bF]at this;exact this) (aE rfl) (aE rfl) lZ hp (by lia)
     refine(aT e6).trans ?_;have e7:=wU (cl:=run F (k+2)) (i:=2) (l:=h.n) (x:=.var 6) (ρ:=[aB B.w,aB s0,aB (.ref h.n),aB (.ref (h.n+1)),aB (.ref (h.n+2)),aB (nameP B ls f),aB (aG t)]) (h:=(cG h xs (xs.map (iz B))).set (h.n+1) (.dt (xs.map aG++[aG t]) (dY 0 xs.length++[.int xs.length]))) (h1:=(cG h xs (xs.map (iz B))).set (h.n+1) (.dt (xs.map aG++[aG t]) (dY 0 xs.length++[.int xs.length]))) (w:=aG t) (acc:=xs.map aG) (kU:=xs.map aG) rfl P5 rfl P5 (by rw[bF];lia);rw[zwe]at e7;exact(aT (iR e7)).trans rfl
    obtain⟨x',y',ih⟩:=P8 (k:=k) (h:=h) (s0:=s0) b n fu (xs++[t]) t (aB (nameP B ls f)) (aB (aG t)) (by lia) (by rw[fS,kJ];lia)
     (by
       rw[ve];exact⟨nd,by simp,λa ha b hb=>by rw[i7.mp hb];exact λz=>yY hp (z▸ha)⟩)
     (λu hu=>by
       rcases nh.mp hu with hu|hu;exact g u hu;rw[i7.mp hu];exact gt) (by simp)
    rw[zwh]at ih;have hw:bR (ev (run F (k+2)) rT) (exs (run F (k+2)) mY) (fu+1) [aB B.w,aB s0,aB (.ref h.n),aB (.ref (h.n+1)),aB (.ref (h.n+2)),x,y] (cG h xs (gG B xs))=bR (ev (run F (k+2)) rT) (exs (run F (k+2)) mY) fu [aB B.w,aB s0,aB (.ref h.n),aB (.ref (h.n+1)),aB (.ref (h.n+2)),aB (nameP B ls f),aB (aG t)] (cG h (xs++[t]) (xs.map (iz B))):=by rw[bR,ec];show Res.bind (exs (run F (k+2)) mY _ _) _=_;rw[eb];rfl
    rw[hw];exact⟨x',y',ih⟩
theorem P9{k:Nat}{h:VH}{B:Bd}{s:aY}(b:B.Ok)(g:br B s) :
 ∃i a c h',run F (k+3) 112 [B.w,aG s] h=.ok (.ref i) h'/\h'.get i=aB (.lst [.ref a,.ref c,aK (aH B 1280 [s] (aV B s)).2])/\h'.get a=aB (.lst ((aH B 1280 [s] (aV B s)).1.map aG))/\
  h'.get c=aB (.lst (if(aH B 1280 [s] (aV B s)).2=aC then gG B (aH B 1280 [s] (aV B s)).1 else(aH B 1280 [s] (aV B s)).1.map (iz B)))/\h.n<=a/\h.n<=c/\Gx h h':=by
 rw[cA C.J5 rfl];obtain⟨x',y',hl⟩:=P8 C (k:=k) (h:=h) (s0:=aG s) b 1280 fuel [s] s aC aC (by decide) (show 1281<=1280+1 by decide) (by simp) (λt ht=>by rw[i7.mp ht];exact g) rfl;generalize aH B 1280 [s] (aV B s)=E at hl ⊢;have e1:exs (run F (k+2)) (.set 3 (.nt (.cons (.var 1) (.cons (.cst (.int (0))) .nil)))) [aB B.w,aB (aG s),aB (.ref h.n),aC,aC,aC,aC] (VH.new ⟨h.n,h.n,h.os⟩ (.lst [aG s]))=.ok (.nx [aB B.w,aB (aG s),aB (.ref h.n),aB (.ref (h.n+1)),aC,aC,aC]) ((VH.new ⟨h.n,h.n,h.os⟩ (.lst [aG s])).new (.dt [aG s] [.int 0])):=by
  have hk:oq [aG s,.int 0]=aC:=rfl;have hd:jF [aG s,.int 0] (VH.new ⟨h.n,h.n,h.os⟩ (.lst [aG s]))=.ok (.ref (h.n+1)) ((VH.new ⟨h.n,h.n,h.os⟩ (.lst [aG s])).new (.dt [aG s] [.int 0])):=by simp only[jF,CL];rfl
  have ha:ev (run F (k+2)) (.cons (.var 1) (.cons (.cst (.int (0))) .nil)) [aB B.w,aB (aG s),aB (.ref h.n),aC,aC,aC,aC] (VH.new ⟨h.n,h.n,h.os⟩ (.lst [aG s]))=.ok (.tup [aG s,.int 0]) (VH.new ⟨h.n,h.n,h.os⟩ (.lst [aG s])):=rfl;have hz:ev (run F (k+2)) (.nt (.cons (.var 1) (.cons (.cst (.int (0))) .nil))) [aB B.w,aB (aG s),aB (.ref h.n),aC,aC,aC,aC] (VH.new ⟨h.n,h.n,h.os⟩ (.lst [aG s]))=jF [aG s,.int 0] (VH.new ⟨h.n,h.n,h.os⟩ (.lst [aG s])):=by rw[ev,ha,aD];simp only[hk]
  exact bJ (hz.trans hd)
 have key:exs (run F (k+2)) lK.body [aB B.w,aB (aG s),aC,aC,aC,aC,aC] ⟨h.n,h.n,h.os⟩=.ok (.rt (.ref (h.n+3))) ((cG h E.1 (if E.2=aC then gG B E.1 else E.1.map (iz B))).new (.lst [.ref h.n,.ref (h.n+2),aK E.2])):=by
  refine(aT (ρ':=[aB B.w,aB (aG s),aB (.ref h.n),aC,aC,aC,aC]) (h':=VH.new ⟨h.n,h.n,h.os⟩ (.lst [aG s])) ?_).trans ?_;exact bJ (by rw[ev,ev,aE (x:=aG s) rfl,aD,ev,aD];rfl);refine(aT e1).trans ?_;refine(aT (ρ':=[aB B.w,aB (aG s),aB (.ref h.n),aB (.ref (h.n+1)),aB (.ref (h.n+2)),aC,aC]) (h':=cG h [s] (gG B [s])) ?_).trans ?_;rfl;rcases hl with⟨hl,he⟩|⟨i,he,hl⟩
  refine(aT (show exs (run F (k+2)) (.n9 rT mY) _ _=_ from hl)).trans ?_;rw[he,if_pos rfl];exact cQ (bS (by
   rw[ev,ev,aE (x:=.ref h.n) rfl,aD,ev,aE (x:=.ref (h.n+2)) rfl,aD,ev,ev,aD,ev];rfl))
  rw[he,if_neg (by simp)];exact cQ (show exs (run F (k+2)) (.n9 rT mY) _ _=_ from hl)
 generalize (if E.2=aC then gG B E.1 else E.1.map (iz B))=ns' at key ⊢;show ∃i a c h',fin h (exs (run F (k+2)) lK.body [aB B.w,aB (aG s),aC,aC,aC,aC,aC] ⟨h.n,h.n,h.os⟩)=.ok (.ref i) h'/\_;rw[key];have hlt:W.lt h.n (.ref (h.n+3))=false:=by show Nat.blt (h.n+3) h.n=false;exact qj (by lia)
 have B3:leave h (.ref (h.n+3)) ((cG h E.1 ns').new (.lst [.ref h.n,.ref (h.n+2),aK E.2]))=.ok (.ref (h.n+3)) ⟨h.n+4,if Nat.ble h.lo h.n then h.lo else h.n,((cG h E.1 ns').new (.lst [.ref h.n,.ref (h.n+2),aK E.2])).os⟩:=by unfold leave;rw[hlt,DL];rfl
 refine⟨h.n+3,h.n,h.n+2,_,B3,?_,?_,?_,bq _,xV _ _,⟨xV _ _,λe=>?_,λi o e=>?_⟩⟩;exact(bC (h:=(cG h E.1 ns').new (.lst [.ref h.n,.ref (h.n+2),aK E.2]))).trans cY;exact(bC (h:=(cG h E.1 ns').new (.lst [.ref h.n,.ref (h.n+2),aK E.2]))).trans ((gE (show h.n<h.n+3 by lia)).trans lY);exact(bC (h:=(cG h E.1 ns').new (.lst [.ref h.n,.ref (h.n+2),aK E.2]))).trans ((gE (show h.n+2<h.n+3 by lia)).trans pD);show(if Nat.ble h.lo h.n then h.lo else h.n)=h.n;rw[e];split<;>rfl;have hi:=cK e;exact(bC (h:=(cG h E.1 ns').new (.lst [.ref h.n,.ref (h.n+2),aK E.2]))).trans ((gE (show i<h.n+3 by lia)).trans ((zwf hi).trans e))
end
theorem z03{nx:Nat->VH->Option (Option W)}{e:FE}{h:VH}{ws:List W}{x:W}{tl:En}{f:W->W}(hx:∀i,nx i h=aB ws[i]?)(he:∀w∈ws,e (aB x::aB w::tl) h=.ok (f w) h) :
 ∀(fu i:Nat)(b:Option W)(acc:List W),i<=ws.length->ws.length<fu+i->∃b',tY nx (bz (.one 1)) (λ_ h=>.ok (.bl true) h) e fu i (aB x::b::tl) h acc=.ok (aB x::b'::tl,((ws.drop i).map f).reverse++acc) h
 |0,i,b,acc,hi,hl=>by lia
 |fu+1,i,b,acc,hi,hl=>by
  cases q:ws[i]? with
  |none=>
   rw[vc (ng.mp q)];exact⟨b,by simp only[tY,hx,q];rfl⟩
  |some w=>
   obtain⟨hi,ee⟩:=jK.mp q;obtain⟨b',ih⟩:=z03 hx he fu (i+1) (aB w) (f w::acc) hi (by lia);refine⟨b',?_⟩;simp only[tY,hx,q,bz,iB,gQ,aD,he w (l9 q),ih];rw[u9 hi,ee];simp
theorem J'{nx:Nat->VH->Option (Option W)}{c e:FE}{h:VH}{ws:List W}{tl:En}{p:W->Bool}{f:W->W}(hx:∀i,nx i h=aB ws[i]?)(hc:∀w∈ws,c (aB w::tl) h=.ok (.bl (p w)) h)(he:∀w∈ws,e (aB w::tl) h=.ok (f w) h) :
 ∀(fu i:Nat)(a:Option W)(acc:List W),i<=ws.length->ws.length<fu+i->eG nx (bz (.one 0)) c e fu i (a::tl) h acc=.ok (acc.reverse++((ws.drop i).filter p).map f) h
 |0,i,a,acc,hi,hl=>by lia
 |fu+1,i,a,acc,hi,hl=>by
  cases q:ws[i]? with
  |none=>
   rw[vc (ng.mp q)];simp only[eG,hx,q];simp
  |some w=>
   obtain⟨hi,ee⟩:=jK.mp q;have hm:=l9 q;simp only[eG,hx,q,bz,gQ,hc w hm,aD];rw[u9 hi,ee];cases z:p w with
   |true=>
    simp only[he w hm,aD];rw[J' hx hc he fu (i+1) (aB w) (f w::acc) hi (by lia)];simp[z]
   |false=>
    rw[J' hx hc he fu (i+1) (aB w) acc hi (by lia)];simp[z]
theorem Qa{h:VH}{w:W}{d:aA}(p:g9 24 w)(e:toD h 24 w=aB d):SeqAt.shaped d=true:=by obtain⟨d',h1,h2,h3⟩:=FW h 24 w p;rw[e]at h1;cases h1;unfold SeqAt.shaped;rw[h2,Bool.true_and,gH];lia
theorem z04{h:VH}{w w':W}{d d':aA}(p:g9 24 w)(p':g9 24 w')(e:toD h 24 w=aB d)(e':toD h 24 w'=aB d'):cR h w w'=aB (PyData.eqv d d'):=by unfold cR;rw[e,e'];simp[Qa p e,Qa p' e']
theorem zwi{ws:List W}{k:Nat}(h:k<=ws.length):gw ws aC (aB (k:Int))=ws.take k:=by unfold gw;rw[HT.jW,HT.iu,tB,vh h,Nat.sub_zero]
theorem zwj{ws:List W}{k:Nat}(h:k<=ws.length):gw ws (aB (k:Int)) aC=ws.drop k:=by unfold gw;rw[HT.jW,HT.iu,vh h];exact List.take_of_length_le (by rw[List.length_drop];lia)
theorem zwk{ws:List W}{k m:Nat}(h:k+m<=ws.length):gw ws (aB (k:Int)) (aB ((k+m:Nat):Int))=(ws.drop k).take m:=by unfold gw;rw[HT.iu,HT.iu,vh h,vh (show k<=ws.length by lia),show k+m-k=m by lia]
theorem zmw{m:Nat}(h:m<=5000):fits (m:Int)=true:=by unfold fits;rw[bM,gH,gH];lia
theorem Gn{cl:Call}{a b:E}{ρ:En}{h h1:VH}(ea:ev cl a ρ h=.ok (.bl false) h1):ev cl (.or a b) ρ h=ev cl b ρ h1:=by rw[ev,ea,aD]
structure pF(F:Nat->Option Fn):Prop where
 Ka:F 59=aB mW
 Kc:F 204=aB lQ
theorem zwl{h:VH}:cR h .aI .aI=aB true:=rfl
section
variable{F:Nat->Option Fn}(C:pF F)(A:CoreA F)
include C A
omit C in
theorem z05{k:Nat}{h:VH}{ws:List W}:run F (k+1) 6 [.tup ws,.int ws.length,.int ws.length] h=.ok (.bl true) h:=by rw[qh A (by unfold Kn;simp)];simp[gF]
theorem Ke:∀(n:Nat) {k:Nat} {h:VH} {w:W},bO n w=true->run F (k+n+2) 59 [w,w] h=.ok (.bl true) h:=by
 have hint:∀{k:Nat}{h:VH}{i:Int},run F (k+2) 59 [.int i,.int i] h=.ok (.bl true) h:=by intro k h i;rw[cA C.Ka rfl];simp[mW,exs,ev,fV,aQ,iN,cU]
 have ko:∀{k:Nat}{h:VH},run F (k+2) 59 [.aI,.aI] h=.ok (.bl true) h:=by intro k h;rw[cA C.Ka rfl];simp[mW,exs,ev,fV,aQ,zwl,cU]
 intro n;induction n with
 |zero=>
  intro k h w hw;cases w<;>simp only[bO]at hw<;>first|exact hint|exact ko|cases hw
 |succ n ih=>
  intro k h w hw;cases w<;>simp only[bO]at hw<;>first|(exact hint (k:=k+n+1))|(exact ko (k:=k+n+1))|(cases hw;done)|skip
  rename_i ws;rw[bM]at hw;have hlen:=lu hw.1;have hall:=lq.mp hw.2;rw[show k+ (n+1)+2=(k+n+2)+1 by lia,cA C.Ka rfl];have hz:(iQ ws ws).length<1000000:=by unfold iQ;rw[List.length_zipWith];lia
  have e1:=J7 (cl:=run F (k+n+2)) (e:=Jq) ws aC aC ⟨h.n,h.n,h.os⟩ λw hw h=>fL (aE rfl) (aE rfl) (ih (k:=k) (hall w hw))
  have e2:=PD (cl:=run F (k+n+2)) (a:=.cons (.var 0) (.cons (.var 1) .nil)) (ρ:=[aB (.tup ws),aB (.tup ws)]) (h:=⟨h.n,h.n,h.os⟩) (h1:=⟨h.n,h.n,h.os⟩) (ow:=2) (ix:=[]) (e:=Jq) (t:=.many [0,1]) rfl hz e1 (by rw[ze];lia);have e3:=CM e2 cY;have el:ev (run F (k+n+2)) (.bi .len (.cons (.var 1) .nil)) [aB (.tup ws),aB (.tup ws)] ⟨h.n,h.n,h.os⟩=.ok (.int ws.length) ⟨h.n,h.n,h.os⟩:=ic (aE rfl) rfl;have e4:ev (run F (k+n+2)) (.not (.jb (.call 6 (.cons (.var 0) (.cons (.bi .len (.cons (.var 1) .nil)) (.cons (.bi .len (.cons (.var 1) .nil)) .nil)))))) [aB (.tup ws),aB (.tup ws)] ⟨h.n,h.n,h.os⟩=.ok (.bl false) ⟨h.n,h.n,h.os⟩:=by rw[ev,kj (pA (aE rfl) el el (z05 A (k:=k+n+1)))];rfl
  have e5:ev (run F (k+n+2)) (.jb (.nY .tuple (.var 1))) [aB (.tup ws),aB (.tup ws)] ⟨h.n,h.n,h.os⟩=.ok (.bl true) ⟨h.n,h.n,h.os⟩:=by simp[ev,fV]
  have eb:exs (run F (k+n+2)) mW.body [aB (.tup ws),aB (.tup ws)] ⟨h.n,h.n,h.os⟩=.ok (.rt (.bl true)) (VH.new ⟨h.n,h.n,h.os⟩ (.lst (bf ws.length (.bl true)))):=by refine cQ ?_;rw[fM e5];refine(aT (ρ':=[aB (.tup ws),aB (.tup ws)]) (h':=⟨h.n,h.n,h.os⟩) ?_).trans (cQ (bS e3));rw[cD e4];rfl
  show fin h (exs (run F (k+n+2)) mW.body [aB (.tup ws),aB (.tup ws)] ⟨h.n,h.n,h.os⟩)=_;rw[eb];exact cU (bq _) (by simp)
end
theorem Qc(s:aY)(hl:s.1.length<=5000)(n:Nat):bO (n+2) (aG s)=true:=by
 obtain⟨ls,fo⟩:=s;have h1:bO (n+1) (iW ls)=true:=by unfold iW bO;rw[bM,lq];refine⟨qA.mpr (by rw[bF];exact hl),λw hw=>?_⟩;obtain⟨i,_,rfl⟩:=jh.mp hw;cases n<;>rfl
 have h2:bO (n+1) (bA fo)=true:=by cases fo<;>rfl
 unfold aG;show(Nat.ble 2 5000 && [iW ls,bA fo].all (bO (n+1)))=true;simp[h1,h2]
section
variable{F:Nat->Option Fn}(C:pF F)(A:CoreA F)(Y:jw F)(B':ju F)
include C A Y B'
omit B' in
theorem Qd{k:Nat}{h:VH}{B:Bd}{s0 p st bk:W}(b:B.Ok):∀(n:Nat) (xs:List aY) (c:Option aY) (x:Option W),1281<=n+xs.length->xs.Nodup->(∀s∈xs,br B s)->(∀s,c=aB s->br B s)->
 ∃rest c' x',(aH B n xs c).1=xs++rest/\forL (bz (.one 7)) (exs (run F (k+5)) Cb) (rest.map aG) [aB B.w,aB s0,aB p,aB st,aB bk,aB (.ref h.n),aB (bU c),x] (dQ h xs)=.ok (.nx [aB B.w,aB s0,aB p,aB st,aB bk,aB (.ref h.n),aB (bU c'),x']) (dQ h (aH B n xs c).1)/\
  ((c'=aC/\(aH B n xs c).2=aC)\/∃s i,c'=aB s/\(aH B n xs c).2=aB i/\cM s 0 (aH B n xs c).1=aB i)
 |0,xs,c,x,hN,nd,g,_=>by have:=few b nd g;lia
 |n+1,xs,aC,x,hN,nd,g,gc=>⟨[],aC,x,(pT _).symm,rfl,.inl ⟨rfl,rfl⟩⟩
 |n+1,xs,aB s,x,hN,nd,g,gc=>by
  cases hp:cM s 0 xs with
  |some i=>
   have hev:aH B (n+1) xs (aB s)=(xs,aB i):=by simp only[aH,hp]
   rw[hev];exact⟨[],aB s,x,(pT _).symm,rfl,.inr ⟨s,i,rfl,rfl,hp⟩⟩
  |none=>
   have hev:aH B (n+1) xs (aB s)=aH B n (xs++[s]) (aV B s):=by simp only[aH,hp]
   rw[hev];have hfew:=few b nd g;have gs:=gc s rfl;obtain⟨rest,c',x',h1,ih,hc'⟩:=Qd (k:=k) (h:=h) (s0:=s0) (p:=p) (st:=st) (bk:=bk) b n (xs++[s]) (aV B s) (aB (aG s)) (by rw[fS,kJ];lia)
    (by
      rw[ve];exact⟨nd,by simp,λa ha b hb=>by rw[i7.mp hb];exact λz=>yY hp (z▸ha)⟩)
    (λt ht=>by
      rcases nh.mp ht with ht|ht;exact g t ht;rw[i7.mp ht];exact gs) (λt ht=>xj b gs ht)
   refine⟨s::rest,c',x',by rw[h1,vd];rfl,?_,hc'⟩;have hin:=lX (s:=s) (ql (h:=h) (xs:=xs));have hlen:s.1.length<=5000:=by have:=gs.1;have:=b.g2;lia
   have hj:=Ke C A 2 (k:=k+1) (h:=dQ h xs) (Qc s hlen 0);have ec:ev (run F (k+5)) (.or (.cmp .ja (.var 6) (.cst .aI)) (.or (.cmp .mK (.var 6) (.var 5)) (.not (.jb (.call 59 (.cons (.var 7) (.cons (.var 6) .nil))))))) [aB B.w,aB s0,aB p,aB st,aB bk,aB (.ref h.n),aB (bU (aB s)),aB (aG s)] (dQ h xs)=.ok (.bl false) (dQ h xs):=by rw[Gn (h1:=dQ h xs) (by simp[ev,aQ,yN,bU,Gm]),Gn (h1:=dQ h xs) (by simp[ev,aQ,bU,hin,hp]),ev,kj (fL (x:=aG s) (y:=aG s) (aE rfl) (aE rfl) hj)];rfl
   have e1:=xq (cl:=run F (k+5)) (o:=.var 5) (i:=.var 6) (v:=.bi .len (.cons (.var 5) .nil)) (ρ:=[aB B.w,aB s0,aB p,aB st,aB bk,aB (.ref h.n),aB (bU (aB s)),aB (aG s)]) (h:=dQ h xs) (a:=h.n) (xs:=xs) (s:=s) (PZ rfl ql) (aE rfl) (aE rfl) ql hp (by lia);rw[PX]at e1;have e2:=PV Y (k:=k) (h:=dQ h (xs++[s])) b gs;rw[PY]at e2;have eb:exs (run F (k+5)) Cb [aB B.w,aB s0,aB p,aB st,aB bk,aB (.ref h.n),aB (bU (aB s)),aB (aG s)] (dQ h xs)=.ok (.nx [aB B.w,aB s0,aB p,aB st,aB bk,aB (.ref h.n),aB (bU (aV B s)),aB (aG s)]) (dQ h (xs++[s])):=by unfold Cb;refine(aT ((cD ec).trans rfl)).trans ?_;refine(aT e1).trans ?_;refine(aT (bJ (fL (aE rfl) (aE rfl) e2))).trans ?_;rfl
   rw[dz];simp only[forL,bz,iB,gQ,eb,aD];exact ih
theorem zmx{k:Nat}{h:VH}{B:Bd}{s:aY}(b:B.Ok)(g:br B s):run F (k+10) 204 [B.w,aG s,.tup [.tup ((aH B 1281 [] (aB s)).1.map aG),aK (aH B 1281 [] (aB s)).2]] h=.ok (.bl true) h:=by
 rw[cA C.Kc rfl];have e0:=J2 Y B' (k:=k) (h:=⟨h.n,h.n,h.os⟩) b g;obtain⟨rest,c',x',h1,el,hc'⟩:=Qd C A Y (k:=k+4) (h:=h) (s0:=aG s) (p:=.tup [.tup ((aH B 1281 [] (aB s)).1.map aG),aK (aH B 1281 [] (aB s)).2]) (st:=.tup ((aH B 1281 [] (aB s)).1.map aG)) (bk:=aK (aH B 1281 [] (aB s)).2) b 1281 [] (aB s) aC (by decide) xQ (λ_ h=>nomatch h) (λt ht=>by cases ht;exact g);obtain⟨nd,gd⟩:=Gk b 1281 [] (aB s) xQ (λ_ h=>nomatch h) (λt ht=>by cases ht;exact g);generalize aH B 1281 [] (aB s)=E at *;have hfew:=few b nd gd;rw[qx]at h1;subst h1;have e1:exs (run F (k+9)) (.set 5 (.nt .nil)) [aB B.w,aB (aG s),aB (.tup [.tup (E.1.map aG),aK E.2]),aB (.tup (E.1.map aG)),aB (aK E.2),aC,aC,aC] ⟨h.n,h.n,h.os⟩=.ok (.nx [aB B.w,aB (aG s),aB (.tup [.tup (E.1.map aG),aK E.2]),aB (.tup (E.1.map aG)),aB (aK E.2),aB (.ref h.n),aC,aC]) (dQ h []):=by simp only[exs,ev,aD,oq];rw[if_pos (by decide)];rfl
 have e6:=qh A (k:=k+8) (h:=⟨h.n,h.n,h.os⟩) (w:=.tup [.tup (E.1.map aG),aK E.2]) (lo:=2) (hi:=2) (by unfold Kn;simp);have t6:gF (.tup [.tup (E.1.map aG),aK E.2]) 2 2=true:=rfl;rw[t6]at e6;have ec:ev (run F (k+9)) (.or (.not (.jb (.call 6 (.cons (.var 2) (.cons (.cst (.int (2))) (.cons (.cst (.int (2))) .nil)))))) (.not (.jb (.nY .tuple (.idx (.var 2) (.cst (.int (0)))))))) [aB B.w,aB (aG s),aB (.tup [.tup (E.1.map aG),aK E.2]),aC,aC,aC,aC,aC] ⟨h.n,h.n,h.os⟩=.ok (.bl false) ⟨h.n,h.n,h.os⟩:=by rw[Gn (h1:=⟨h.n,h.n,h.os⟩) (by rw[ev,kj (pA (x:=.tup [.tup (E.1.map aG),aK E.2]) (y:=.int 2) (z:=.int 2) (aE rfl) rfl rfl e6)];rfl)];rfl
 have xr:exs (run F (k+9)) (.«for» .seq (.var 3) (.one 7) Cb) [aB B.w,aB (aG s),aB (.tup [.tup (E.1.map aG),aK E.2]),aB (.tup (E.1.map aG)),aB (aK E.2),aB (.ref h.n),aB (bU (aB s)),aC] (dQ h [])=.ok (.nx [aB B.w,aB (aG s),aB (.tup [.tup (E.1.map aG),aK E.2]),aB (.tup (E.1.map aG)),aB (aK E.2),aB (.ref h.n),aB (bU c'),x']) (dQ h E.1):=by rw[exs,aE (x:=.tup (E.1.map aG)) rfl,aD,wO (by rw[bF];lia)];exact el
 have eb:exs (run F (k+9)) lQ.body [aB B.w,aB (aG s),aB (.tup [.tup (E.1.map aG),aK E.2]),aC,aC,aC,aC,aC] ⟨h.n,h.n,h.os⟩=.ok (.rt (.bl true)) (dQ h E.1):=by
  refine(aT (iR (fL (aE rfl) (aE rfl) e0))).trans ?_;refine(aT ((cD ec).trans rfl)).trans ?_;refine(aT (ρ':=[aB B.w,aB (aG s),aB (.tup [.tup (E.1.map aG),aK E.2]),aB (.tup (E.1.map aG)),aB (aK E.2),aC,aC,aC]) (h':=⟨h.n,h.n,h.os⟩) rfl).trans ?_;refine(aT e1).trans ?_;refine(aT (bJ (aE rfl))).trans ?_;refine(aT xr).trans ?_;rcases hc' with⟨rfl,e⟩|⟨t,i,rfl,e,ep⟩
  refine cQ ?_;rw[fM (h1:=dQ h E.1) (by simp[ev,aQ,bB,bU])];exact cQ (bS (by rw[e];rfl));refine(aT (ρ':=[aB B.w,aB (aG s),aB (.tup [.tup (E.1.map aG),aK E.2]),aB (.tup (E.1.map aG)),aB (aK E.2),aB (.ref h.n),aB (bU (aB t)),x']) (h':=dQ h E.1) ?_).trans (cQ (bS ?_));exact(cD (h1:=dQ h E.1) (by simp[ev,aQ,yN,bU,Gm])).trans rfl;have hin:=lX (s:=t) (ql (h:=h) (xs:=E.1));have hj:=Ke C A 0 (k:=k+7) (h:=dQ h E.1) (w:=.int (i:Int)) rfl;have e7:ev (run F (k+9)) (.cmp .mK (.var 6) (.var 5)) [aB B.w,aB (aG s),aB (.tup [.tup (E.1.map aG),aK E.2]),aB (.tup (E.1.map aG)),aB (aK E.2),aB (.ref h.n),aB (bU (aB t)),x'] (dQ h E.1)=.ok (.bl true) (dQ h E.1):=by simp[ev,aQ,bU,hin,ep]
  rw[ev,e7,aD];refine fL (x:=.int (i:Int)) ?_ (bY (aE rfl) (aE rfl) (J4 ql ep)) hj;rw[e];rfl
 show fin h (exs (run F (k+9)) lQ.body [aB B.w,aB (aG s),aB (.tup [.tup (E.1.map aG),aK E.2]),aC,aC,aC,aC,aC] ⟨h.n,h.n,h.os⟩)=_;rw[eb];exact cU (bq _) (by simp)
end
theorem Kf{s:aY}:∀{xs:List aY} {i j:Nat},cM s j xs=aB i->j<=i/\i<j+xs.length
 |[],_,_,h=>by cases h
 |x::xs,i,j,h=>by
  unfold cM at h;split at h;cases h;rw[dG];lia;have:=Kf h;rw[dG];lia
theorem Qe{B:Bd}:∀(n:Nat) (xs:List aY) (c:Option aY) {i:Nat},(aH B n xs c).2=aB i->i< (aH B n xs c).1.length
 |0,xs,c,i,h=>by cases h
 |n+1,xs,aC,i,h=>by cases h
 |n+1,xs,aB s,i,h=>by
  cases hp:cM s 0 xs with
  |some j=>
   have hev:aH B (n+1) xs (aB s)=(xs,aB j):=by simp only[aH,hp]
   rw[hev]at h ⊢;cases h;have:=Kf hp;show i<xs.length;lia
  |none=>
   have hev:aH B (n+1) xs (aB s)=aH B n (xs++[s]) (aV B s):=by simp only[aH,hp]
   rw[hev]at h ⊢;exact Qe n _ _ h
theorem Qf{B:Bd}(b:B.Ok):∀(n:Nat) (xs:List aY) (s:aY),1281<=n+xs.length->xs.Nodup->(∀s∈xs,br B s)->xs.getLast?=aB s->(aH B n xs (aV B s)).2=aC->∃t,(aH B n xs (aV B s)).1.getLast?=aB t/\t.2=aC
 |0,xs,s,hN,nd,g,_,_=>by have:=few b nd g;lia
 |n+1,xs,s,hN,nd,g,hs,h=>by
  obtain⟨ls,fo⟩:=s;cases fo with
  |none=>exact⟨_,hs,rfl⟩
  |some f=>
   have gs:=g _ (List.mem_of_getLast? hs);have gt:br B ((B.aX ls f).ls,dj B ls f):=xj b gs rfl;generalize ht:((B.aX ls f).ls,dj B ls f)=t at gt;have J9:aV B (ls,aB f)=aB t:=by rw[<-ht];rfl
   rw[J9]at h ⊢;cases hp:cM t 0 xs with
   |some j=>
    have hev:aH B (n+1) xs (aB t)=(xs,aB j):=by simp only[aH,hp]
    rw[hev]at h;cases h
   |none=>
    have hev:aH B (n+1) xs (aB t)=aH B n (xs++[t]) (aV B t):=by simp only[aH,hp]
    rw[hev]at h ⊢;exact Qf b n (xs++[t]) t (by rw[fS,kJ];lia)
     (by
       rw[ve];exact⟨nd,by simp,λa ha b hb=>by rw[i7.mp hb];exact λz=>yY hp (z▸ha)⟩)
     (λu hu=>by
       rcases nh.mp hu with hu|hu;exact g u hu;rw[i7.mp hu];exact gt) (by simp) h
noncomputable def nW(x:Int):W:=if x=-1 then .aI else .int x
noncomputable def nZ:W->Int|.int i=>i|_=>-1
theorem z06{i:Int}(h:0<=i):nW i=.int i:=if_neg (by lia)
noncomputable def yZ(B:Bd)(s:aY):Int:=nZ (iz B s)
noncomputable def xu(B:Bd):List Int:=-1::B.dr.map λd=>nZ (CA d)
theorem zwm{B:Bd}(b:B.Ok):(xu B).length<=41:=by have h1:=b.d1;have h2:=b.w2;unfold xu;rw[dG,bF];lia
theorem sU{B:Bd}(b:B.Ok){s:aY}(g:br B s):iz B s=nW (yZ B s)/\yZ B s∈xu B/\-1<=yZ B s/\yZ B s<=99:=by
 obtain⟨ls,fo⟩:=s;obtain⟨hl,bi,hf⟩:=g;have aI:∀w:W,w=.aI->w=nW (nZ w)/\nZ w∈xu B/\-1<=nZ w/\nZ w<=99:=λw e=>by
  subst e;exact⟨rfl,eX,by decide,by decide⟩
 cases fo with
 |none=>exact aI _ rfl
 |some f=>
  have hf:=hf f rfl;have q:=b.aX hf hl bi;show nameP B ls f=nW (nZ (nameP B ls f))/\nZ (nameP B ls f)∈xu B/\-1<=nZ (nameP B ls f)/\nZ (nameP B ls f)<=99;unfold nameP outD;by_cases z:(B.aX ls f).st=true;rw[if_pos z];exact aI _ rfl;rw[if_neg z];obtain⟨_,a2⟩:=b.door q.c4.1 q.c4.2;have c0:=q.c4.1;have c1:=q.c4.2;generalize dZ (B.col f) (B.aX ls f).cs=c at *;obtain⟨a,y,e,h0,h9,_⟩:=F2 a2;have hd:=b.d1;have hn:c.toNat<B.dr.length:=by lia
  have em:B.door c∈B.dr:=by unfold Bd.door;rw[iA hn];exact nF hn
  have e1:CA (B.door c)=.int a:=by rw[e];rfl
  have e2:nZ (CA (B.door c))=a:=by rw[e1];rfl
  refine⟨by rw[e2,e1,z06 h0],eU _ (jh.mpr ⟨_,em,rfl⟩),by rw[e2];lia,by rw[e2];exact h9⟩
noncomputable def CN(B:Bd)(xs:List aY):Prop:=∀(j:Nat) (s t:aY),xs[j]?=aB s->xs[j+1]?=aB t->aV B s=aB t
theorem Qg{s:aY}:∀{xs:List aY} {i j:Nat},cM s j xs=aB i->xs[i-j]?=aB s
 |[],i,j,e=>by cases e
 |x::xs,i,j,e=>by
  unfold cM at e;split at e;rename_i hx;cases e;rw[Nat.sub_self,hx];rfl;have h1:=Kf e;have h2:=Qg e;rw[show i-j=(i- (j+1))+1 by lia,ir];exact h2
theorem zsn{B:Bd}{xs:List aY}{s:aY}(h:CN B xs)(hl:∀t,xs.getLast?=aB t->aV B t=aB s):CN B (xs++[s]):=λj a t ha ht=>by
 rcases Nat.lt_trichotomy (j+1) xs.length with z|z|z;rw[nC (by lia)]at ha;rw[nC z]at ht;exact h j a t ha ht;rw[nC (by lia)]at ha;rw[kI (by lia),show j+1-xs.length=0 by lia]at ht;cases ht;refine hl a ?_;rw[DA,show xs.length-1=j by lia];exact ha;rw[qp (by rw[fS,kJ];lia)]at ht;cases ht
theorem Qh{B:Bd}:∀(n:Nat) (xs:List aY) (c:Option aY),CN B xs->(∀s,xs.getLast?=aB s->aV B s=c)->
 CN B (aH B n xs c).1/\∀i s,(aH B n xs c).2=aB i->(aH B n xs c).1.getLast?=aB s->aV B s=(aH B n xs c).1[i]?
 |0,xs,c,h,_=>⟨h,λ_ _ e=>by cases e⟩
 |n+1,xs,aC,h,_=>⟨h,λ_ _ e=>by cases e⟩
 |n+1,xs,aB s,h,hl=>by
  unfold aH;split;rename_i i e;refine⟨h,λj t ej et=>?_⟩;cases ej;have:=Qg e;rw[Nat.sub_zero]at this;rw[this];exact hl t et;exact Qh n (xs++[s]) (aV B s) (zsn h hl) λt ht=>by
   rw[List.getLast?_append]at ht;cases ht;rfl
theorem Qi{B:Bd}:∀(n:Nat) (xs:List aY) (c:Option aY),∃r,(aH B n xs c).1=xs++r
 |0,xs,c=>⟨[],by simp[aH]⟩
 |n+1,xs,aC=>⟨[],by simp[aH]⟩
 |n+1,xs,aB s=>by
  cases hp:cM s 0 xs with
  |some i=>exact⟨[],by simp[aH,hp]⟩
  |none=>
   obtain⟨r,e⟩:=Qi (B:=B) n (xs++[s]) (aV B s);exact⟨[s]++r,by simp only[aH,hp];rw[e,vd]⟩
structure Ev(B:Bd)(s:aY)(xs:List aY)(bk:Option Nat):Prop where
 l1:1<=xs.length
 l2:xs.length<=1280
 gd:∀t∈xs,br B t
 hd:xs[0]?=aB s
 ch:CN B xs
 bl:∀i,bk=aB i->i<xs.length
 ba:∀i t,bk=aB i->xs[xs.length-1]?=aB t->aV B t=xs[i]?
 en:∀t,bk=aC->xs[xs.length-1]?=aB t->t.2=aC
theorem CO{B:Bd}{s:aY}(b:B.Ok)(g:br B s):Ev B s (aH B 1280 [s] (aV B s)).1 (aH B 1280 [s] (aV B s)).2:=by
 obtain⟨nd,gd⟩:=Gk b 1280 [s] (aV B s) (by simp) (λt ht=>by rw[i7.mp ht];exact g) (λt ht=>xj b g ht);have fR:=Qf b 1280 [s] s (show 1281<=1280+1 by decide) (by simp) (λt ht=>by rw[i7.mp ht];exact g) rfl;have CP:=λi=>Qe (B:=B) 1280 [s] (aV B s) (i:=i);obtain⟨c1,c2⟩:=Qh (B:=B) 1280 [s] (aV B s) (λj a t ha ht=>by
  rw[qp (by rw[kJ];lia)]at ht;cases ht) (λt ht=>by cases ht;rfl)
 obtain⟨r,hr⟩:=Qi (B:=B) 1280 [s] (aV B s);have hfew:=few b nd gd;generalize aH B 1280 [s] (aV B s)=E at *;refine⟨by rw[hr,fS,kJ];lia,hfew,gd,by rw[hr];rfl,c1,CP,λi t e et=>?_,λt e et=>?_⟩;rw[<-DA]at et;exact c2 i t e et;obtain⟨t',h1,h2⟩:=fR e;rw[DA,et]at h1;cases h1;exact h2
theorem Qj{B:Bd}{a t:aY}(h:aV B a=aB t):∃f,a.2=aB f:=by unfold aV at h;split at h;cases h;rename_i f e;exact⟨f,e⟩
section
variable{B:Bd}{s:aY}{xs:List aY}{bk:Option Nat}(V:Ev B s xs bk)
include V
theorem Ev.at(n:Nat):∃a,xs[cj xs.length bk n]?=aB a:=⟨_,iA (Rr V.l1 V.bl)⟩
theorem Ev.zero:xs[cj xs.length bk 0]?=aB s:=by
 have h1:=V.l1;have:cj xs.length bk 0=0:=by unfold cj;split;lia;rw[if_pos (by lia)]
 rw[this];exact V.hd
theorem Ev.step{n:Nat}{a:aY}(ha:xs[cj xs.length bk n]?=aB a)(hn:bk=aC->n<xs.length-1):∃t,aV B a=aB t/\xs[cj xs.length bk (n+1)]?=aB t:=by
 have l1:=V.l1;have go:∀j,xs[j]?=aB a->j+1<xs.length->∃t,aV B a=aB t/\xs[j+1]?=aB t:=λj hj h=>by
  have e:xs[j+1]?=aB xs[j+1]:=iA h;exact⟨_,V.ch j a _ hj e,e⟩
 cases bk with
 |none=>
  have hn:=hn rfl;have e1:cj xs.length aC n=n:=by unfold cj;dsimp only;lia
  have e2:cj xs.length aC (n+1)=n+1:=by unfold cj;dsimp only;lia
  rw[e1]at ha;rw[e2];exact go n ha (by lia)
 |some i=>
  have hi:=V.bl i rfl;have last:xs[xs.length-1]?=aB a->∃t,aV B a=aB t/\xs[i]?=aB t:=λh=>by
   have e:xs[i]?=aB xs[i]:=iA hi;exact⟨_,(V.ba i a rfl h).trans e,e⟩
  have R0:0<xs.length-i:=by lia
  unfold cj at ha ⊢;dsimp only at ha ⊢;by_cases z:n<xs.length;rw[if_pos z]at ha;by_cases y:n+1<xs.length;rw[if_pos y];exact go n ha y;rw[if_neg y,show n+1-i=xs.length-i by lia,Nat.mod_self,Nat.add_zero];exact last (by rw[show xs.length-1=n by lia];exact ha);rw[if_neg z]at ha;rw[if_neg (by lia),show n+1-i=(n-i)+1 by lia];have hr:=tF (n-i) R0;by_cases y:(n-i) % (xs.length-i)+1=xs.length-i;have e:(n-i+1) % (xs.length-i)=0:=by rw[<-Nat.mod_add_mod,y,Nat.mod_self]
  rw[e,Nat.add_zero];exact last (by rw[show xs.length-1=i+ (n-i) % (xs.length-i) by lia];exact ha);have e:(n-i+1) % (xs.length-i)=(n-i) % (xs.length-i)+1:=by rw[Nat.add_mod,DO (show 1<xs.length-i by lia),DO (by lia)]
  rw[e,<-qz];exact go _ ha (by lia)
end
noncomputable def eg(E:List aY×Option Nat):W:=.tup [.tup (E.1.map aG),aK E.2]
theorem Qk{cl:Call}{a c e:E}{t:Tg}{ρ:En}{h h1 h2:VH}{x:W}{ow:Nat}{ix:List Nat}{ys:List W}(ea:ev cl a ρ h=.ok x h1)(el:eG (bw .seq x) (bz t) (ev cl c) (ev cl e) fuel 0 (inner ow ix ρ) h1 []=.ok ys h2)(hy:ys.length<=1000000):ev cl (.lc .seq a t ow ix c e) ρ h=.ok (.ref h2.n) (h2.new (.lst ys)):=by rw[ev,ea,aD,el,aD,if_pos (uL hy)]
noncomputable def Pl(w:W):Prop:=∀n,W.lt n w=true
theorem Pl.tup{ws:List W}(h:∀w∈ws,Pl w):Pl (.tup ws):=λn=>by
 rw[oY];induction ws with
 |nil=>rfl
 |cons a r ih=>
  rw[iM,h a (eX ..),ih λw hw=>h w (eU _ hw)];rfl
theorem Pl.int{i:Int}:Pl (.int i):=λ_=>lt_int
structure Up(b:Nat)(h h':VH):Prop where
 le:h.n<=h'.n
 lo:∀x,x<=b->x<=h.lo->x<=h'.lo
 get:∀i o,i<b->h.get i=aB o->h'.get i=aB o
theorem Up.refl{b:Nat}{h:VH}:Up b h h:=⟨bq _,λ_ _ e=>e,λ_ _ _ e=>e⟩
theorem Up.trans{b:Nat}{h h1 h2:VH}(a:Up b h h1)(c:Up b h1 h2):Up b h h2:=⟨iY a.le c.le,λx y z=>c.lo x y (a.lo x y z),λi o hi e=>c.get i o hi (a.get i o hi e)⟩
theorem Up.new{b:Nat}{h h':VH}{o:VO}(a:Up b h h'):Up b h (h'.new o):=⟨DM a.le,a.lo,λi o' hi e=>by
 have:=a.get i o' hi e;rw[gE (cK this)];exact this⟩
theorem Up.set{b l:Nat}{h h':VH}{o o0:VO}(a:Up b h h')(g:h'.get l=aB o0)(hl:b<=l):Up b h (h'.set l o):=by
 refine⟨a.le,λx y z=>?_,λi o' hi e=>by rw[o4 g (by lia)];exact a.get i o' hi e⟩;have:=a.lo x y z;show x<=if Nat.blt l h'.lo then l else h'.lo
 split<;>lia
theorem Gp{h h':VH}{w:W}(u:Up h.n ⟨h.n,h.n,h.os⟩ h')(hw:Pl w):fin h (.ok (.rt w) h')=.ok w h:=cU (u.lo _ (bq _) (bq _)) (hw _)
theorem pG{h:VH}{i j:Int}:ck .add (.int i) (.int j) h=.ok (.int (i+j)) h:=rfl
theorem iT{h:VH}{i j:Int}:ck .sub (.int i) (.int j) h=.ok (.int (i-j)) h:=rfl
theorem Kg{h:VH}{i j:Int}(hs:nu i):ck .mul (.int i) (.int j) h=.ok (.int (i*j)) h:=by simp only[ck,eF,hs,zl,b9,dO,aR]
theorem Kh{h:VH}{i j:Int}(h1:0<j):ck .mod (.int i) (.int j) h=.ok (.int (i % j)) h:=by simp only[ck,eF,gg h1,b9,dO,aR]
theorem Kl{o:Op}{h:VH}{l:Nat}{k:Int}{xs zs:List W}(g:h.get l=aB (.lst xs))(e:oh o xs k=aB zs):ck o (.ref l) (.int k) h=.ok (.ref h.n) (h.new (.lst zs)):=by simp only[ck,g,e]
theorem Km{h:VH}{l n:Nat}{xs:List W}(g:h.get l=aB (.lst xs))(hn:n<=5000)(hx:xs.length*n<=1000000):ck .mul (.ref l) (.int (n:Int)) h=.ok (.ref h.n) (h.new (.lst (bf n xs).flatten)):=by refine Kl g ?_;have hb:Nat.ble (xs.length*n) big=true:=uL hx;have hf:=zmw hn;unfold oh;simp only[hf,qI,hb,xU,b9]
theorem Ko{o:Op}{h:VH}{l m:Nat}{xs ys zs:List W}(g:h.get l=aB (.lst xs))(g2:h.get m=aB (.lst ys))(e:Ic o xs ys=aB zs):ck o (.ref l) (.ref m) h=.ok (.ref h.n) (h.new (.lst zs)):=by simp only[ck,g,g2,e]
theorem CQ{h:VH}{l m:Nat}{xs ys:List W}(g:h.get l=aB (.lst xs))(g2:h.get m=aB (.lst ys))(hx:xs.length+ys.length<=1000000):ck .add (.ref l) (.ref m) h=.ok (.ref h.n) (h.new (.lst (xs++ys))):=by refine Ko g g2 ?_;have hb:Nat.ble (xs.length+ys.length) big=true:=uL hx;show(if Nat.ble (xs.length+ys.length) big then aB (xs++ys)else aC)=_;rw[if_pos hb]
theorem uP{cl:Call}{a:E}{ρ:En}{h h1:VH}{x:W}(ea:ev cl a ρ h=.ok x h1):ev cl (.lst (.cons a .nil)) ρ h=.ok (.ref h1.n) (h1.new (.lst [x])):=by rw[ev,ev,ea,aD,ev];rfl
noncomputable def kZ(x:Int):Key:=if x=-1 then .inr aC else .inl x
theorem sV{x:Int}(h:x≠-1):kZ x=.inl x:=if_neg h
theorem gW{x:Int}(h:x≠-1):nW x=.int x:=if_neg h
theorem Kp{x y:Int}(e:kZ x=kZ y):x=y:=by by_cases hx:x=-1;by_cases hy:y=-1;rw[hx,hy];rw[hx,sV hy]at e;cases e;by_cases hy:y=-1;rw[hy,sV hx]at e;cases e;rw[sV hx,sV hy]at e;exact Sum.inl.inj e
theorem zwn(x:Int):mL (nW x)=aB (kZ x):=by by_cases hx:x=-1;subst hx;rfl;rw[gW hx,sV hx];rfl
theorem Gq(x:Int):cX (kZ x)=nW x:=by by_cases hx:x=-1;subst hx;rfl;rw[gW hx,sV hx];rfl
theorem uQ{cl:Call}{a:E}{i d:Nat}{ρ:En}{h:VH}{x:Int}{kvs:List (Key×W)}(ki:ρ[i]?=aB (aB (.ref d)))(g:h.get d=aB (.dm kvs))(ea:ev cl a ρ h=.ok (nW x) h):ev cl (.mt .get (.var i) (.cons a (.cons (.cst (.int (0))) .nil))) ρ h=.ok ((bE kvs (kZ x)).getD (.int 0)) h:=by rw[ev,aE ki,aD];simp only[vS,g,b9];rw[ev,ea,aD,ev,show ev cl (.cst (.int (0))) ρ h=.ok (.int 0) h from rfl,aD,ev,aD,aD,aD];simp only[p9,g,zwn]
theorem uR{cl:Call}{o i v:E}{ρ:En}{h:VH}{d:Nat}{x:Int}{w:W}{kvs:List (Key×W)}(e1:ev cl v ρ h=.ok w h)(e2:ev cl o ρ h=.ok (.ref d) h)(e3:ev cl i ρ h=.ok (nW x) h)(g:h.get d=aB (.dm kvs))(hl:kvs.length<1000):exs cl (.put o i v) ρ h=.ok (.nx ρ) (h.set d (.dm (gv kvs (kZ x) w))):=by rw[exs,e1,aD,e2,aD,e3,aD];by_cases hx:x=-1;subst hx;show iH ρ d (.inr aC) w h=_;unfold iH;rw[g];dsimp only;rw[F1 (by lia),if_pos rfl];rfl;rw[gW hx,sV hx];simp only[g,iH];rw[F1 (by lia),if_pos rfl]
noncomputable def ie(ks:List Int)(x:Int):List Int:=if x∈ks then ks else ks++[x]
noncomputable def fZ(f:Int->Int)(x v:Int):Int->Int:=λy=>if y=x then v else f y
noncomputable def eO(ks:List Int)(f:Int->Int):List (Key×W):=ks.map λx=>(kZ x,.int (f x))
theorem Ql{f:Int->Int}{x:Int}:∀ks:List Int,((eO ks f).any λkv=>decide (kv.1=kZ x))=decide (x∈ks)
 |[]=>rfl
 |k::ks=>by
  have ih:=Ql (f:=f) (x:=x) ks;unfold eO at ih ⊢;rw[dz,xR,ih];by_cases z:k=x;subst z;simp;have:¬(kZ k=kZ x):=λq=>z (Kp q);have z':¬x=k:=λq=>z q.symm;simp[this,z']
theorem Qm{ks:List Int}{f:Int->Int}{x v:Int}:gv (eO ks f) (kZ x) (.int v)=eO (ie ks x) (fZ f x v):=by unfold gv ie;rw[Ql];by_cases z:x∈ks;rw[if_pos (gg z),if_pos z];unfold eO;rw[qy];refine xN λy _=>?_;show(if kZ y=kZ x then(kZ y,W.int v)else(kZ y,.int (f y)))=_;unfold fZ;by_cases q:y=x;rw[if_pos (ku kZ q),if_pos q];rw[if_neg (λe=>q (Kp e)),if_neg q];rw[if_neg (by simpa using z),if_neg z];unfold eO;rw[ni];congr 1;refine xN λy hy=>?_;unfold fZ;rw[if_neg (λe:y=x=>z (e▸hy))];rw[dz,nH];unfold fZ;rw[if_pos rfl]
theorem Gs{f:Int->Int}{x:Int}:∀ks:List Int,bE (eO ks f) (kZ x)=if x∈ks then aB (.int (f x))else aC
 |[]=>rfl
 |k::ks=>by
  have ih:=Gs (f:=f) (x:=x) ks;unfold bE eO at ih ⊢;rw[dz,kB];by_cases z:k=x;subst z;rw[gg rfl,if_pos eX];rfl;rw[fE (λq=>z (Kp q))];show Option.map _ (List.find? _ _)=_;rw[ih];by_cases q:x∈ks;rw[if_pos q,if_pos (eU _ q)];rw[if_neg q,if_neg λe=>by
   rcases eV.mp e with e|e;exact z e.symm;exact q e]
structure DN(ns ks:List Int)(f:Int->Int):Prop where
 nd:ks.Nodup
 sub:∀x∈ks,x∈ns
 out:∀x,x∉ks->f x=0
theorem DN.nil{ns:List Int}:DN ns [] λ_=>0:=⟨xQ,λ_ h=>(nomatch h),λ_ _=>rfl⟩
theorem Gu{ks:List Int}{x y:Int}:y∈ie ks x↔y∈ks\/y=x:=by unfold ie;split;rename_i h;constructor;exact .inl;rintro(q|q);exact q;rw[q];exact h;simp
theorem DN.add{ns ks:List Int}{f:Int->Int}{x v:Int}(D:DN ns ks f)(hx:x∈ns):DN ns (ie ks x) (fZ f x v):=by
 refine⟨?_,λy hy=>?_,λy hy=>?_⟩;unfold ie;split;exact D.nd;rename_i h;refine ve.mpr ⟨D.nd,by simp,λa ha b hb=>?_⟩;rw[i7.mp hb];exact λe=>h (e▸ha);rcases Gu.mp hy with q|q
 exact D.sub y q;rw[q];exact hx;unfold fZ;rw[if_neg λe=>hy (Gu.mpr (.inr e))];exact D.out y λe=>hy (Gu.mpr (.inl e))
theorem DN.look{ns ks:List Int}{f:Int->Int}(D:DN ns ks f)(x:Int):(bE (eO ks f) (kZ x)).getD (.int 0)=.int (f x):=by rw[Gs];split;rfl;rename_i h;rw[D.out x h];rfl
theorem DN.len{ns ks:List Int}{f:Int->Int}(D:DN ns ks f):ks.length<=ns.length:=JX D.nd D.sub
theorem uS:∀{l:List Int},l.Nodup->yu l=true
 |[],_=>rfl
 |x::r,h=>by
  obtain⟨h1,h2⟩:=tu.mp h;unfold yu;rw[uS h2,Bool.and_true];simp[h1]
theorem Kq:∀ls:List Int,aW iZ (ls.map .int)=aB ls|[]=>rfl|x::r=>by simp only[dz,aW,iZ,Kq r]
theorem Qn:∀ls:List (Int×Int),aW pW (ls.map wP)=aB ls|[]=>rfl|x::r=>by simp only[dz,aW,pW,wP,Qn r]
theorem zso(ls:List Int):j6 (ls.map .int)=aB ((dD id ls).map .int):=by unfold j6;rw[Kq]
theorem zp8{ls:List (Int×Int)}(h:(ls.map (·.1)).Nodup):j6 (ls.map wP)=aB ((dD (·.1) ls).map wP):=by
 cases ls with
 |nil=>rfl
 |cons p r=>
  unfold j6;rw[show aW iZ ((p::r).map wP)=aC from rfl,Qn];dsimp only;rw[uS h,if_pos rfl]
theorem Kr{ks:List Int}{x:Int}:x∈dD id ks↔x∈ks:=(ud ks).mem_iff
theorem Qo{c:Int->Int}{ks ms:List Int}(h1:ks.Nodup)(h2:ms.Nodup)(h:∀x,x∈ks↔x∈ms/\0<c x) :
 ((dD id ms).filter λx=>decide (0<c x)).map (λx=>(x,c x))=dD (·.1) (ks.map λx=>(x,c x)):=by
 refine IX (f:=λp:Int×Int=>p.1) (λa b ha hb e=>?_) (List.Perm.map _ ?_) ?_;obtain⟨x,_,rfl⟩:=jh.mp ha;obtain⟨y,_,rfl⟩:=jh.mp hb;rw[show x=y from e];refine(List.perm_ext_iff_of_nodup ?_ h1).mpr λx=>?_;exact zu _ ((ud ms).nodup_iff.mpr h2);rw[vf,Kr,h x,gH];refine List.pairwise_map.mpr (zu _ ?_);exact IW (f:=id) ms
theorem Qp{h h':VH}{w:W}(u:Up h.n ⟨h.n,h.n,h.os⟩ h')(hw:W.lt h.n w=false):∃h2,fin h (.ok (.rt w) h')=.ok w h2/\Up h.n h h2/\∀i,h2.get i=h'.get i:=by
 refine⟨⟨h'.n,if Nat.ble h.lo h'.lo then h.lo else h'.lo,h'.os⟩,?_,⟨u.le,λx y z=>?_,λi o hi e=>?_⟩,λi=>rfl⟩;show leave h w h'=_;unfold leave;rw[hw,DL];rfl;have:=u.lo h.n (bq _) (bq _);show x<=if Nat.ble h.lo h'.lo then h.lo else h'.lo
 split<;>lia;exact u.get i o hi e
theorem CS{cl:Call}{a b:E}{ρ:En}{h h1 h2:VH}{m n:Nat}(ea:ev cl a ρ h=.ok (.int (m:Int)) h1)(eb:ev cl b ρ h1=.ok (.int (n:Int)) h2):ev cl (.bi .min (.cons a (.cons b .nil))) ρ h=.ok (.int ((min m n:Nat):Int)) h2:=by
 rw[ev,ev,ea,aD,ev,eb,aD,ev];show Res.ok (W.int (if(n:Int)< (m:Int)then(n:Int)else(m:Int))) h2=_;have:(if(n:Int)< (m:Int)then(n:Int)else(m:Int))=((min m n:Nat):Int):=by split<;>lia
 rw[this]
theorem Ks(ws:List Int){h:VH}{r:Nat}(g:h.get r=aB (.lst (ws.map .int))):mP [.ref r] h=.ok (.int ws.sum) h:=by simp only[mP,g,Kq,dO,aR]
theorem kq{cl:Call}{a b:E}{ρ:En}{h:VH}{x:Int}{n:Nat}(ea:ev cl a ρ h=.ok (.int x) h)(eb:ev cl b ρ (h.new (.lst [.int x]))=.ok (.int (n:Int)) (h.new (.lst [.int x])))(hn:n<=5000):ev cl (.op .mul (.lst (.cons a .nil)) b) ρ h=.ok (.ref (h.n+1)) ((h.new (.lst [.int x])).new (.lst ((bf n x).map .int))):=by refine eN (uP ea) eb ?_;rw[Km (n:=n) (xs:=[.int x]) cY hn (by simp;lia),List.flatten_replicate_singleton,List.map_replicate];rfl
theorem xw{cl:Call}{a b:E}{ρ:En}{h h1 h2:VH}{l m:Nat}{xs ys:List Int}(ea:ev cl a ρ h=.ok (.ref l) h1)(eb:ev cl b ρ h1=.ok (.ref m) h2)(g:h2.get l=aB (.lst (xs.map .int)))(g2:h2.get m=aB (.lst (ys.map .int)))(hx:xs.length+ys.length<=1000000):ev cl (.op .add a b) ρ h=.ok (.ref h2.n) (h2.new (.lst ((xs++ys).map .int))):=by refine eN ea eb ?_;rw[CQ g g2 (by rw[bF,bF];exact hx),ni]
section
variable{F:Nat->Option Fn}(xx:F 61=aB oX)
include xx
theorem zsp{k m n:Nat}{back:Option Nat}{h:VH}(hm:1<=m)(hm2:m<=1281)(hb:∀b,back=aB b->b<m) :
 ∃r h',run F (k+1) 61 [.int (m:Int),aK back,.int (n:Int)] h=.ok (.tup [.ref r,.int ((ji m back n).2:Int)]) h'/\h'.get r=aB (.lst ((ji m back n).1.map .int))/\h.n<=r/\Up h.n h h':=by
 rw[cA xx rfl];have short:∀c:E,ev (run F k) c [aB (.int (m:Int)),aB (aK back),aB (.int (n:Int)),aC,aC,aC] ⟨h.n,h.n,h.os⟩=.ok (.bl true) ⟨h.n,h.n,h.os⟩->∀s:S,∃r h',fin h (exs (run F k) (.seq (.ite c (.seq (.set 3 (.bi .min (.cons (.var 2) (.cons (.op .sub (.var 0) (.cst (.int (1)))) .nil)))) (.seq (.ret (.tup (.cons (.op .add (.op .mul (.lst (.cons (.cst (.int (1))) .nil)) (.var 3)) (.op .mul (.lst (.cons (.cst (.int (0))) .nil)) (.op .sub (.var 0) (.var 3)))) (.cons (.var 3) .nil)))) .skip)) .skip) s) [aB (.int (m:Int)),aB (aK back),aB (.int (n:Int)),aC,aC,aC] ⟨h.n,h.n,h.os⟩)=.ok (.tup [.ref r,.int ((min n (m-1):Nat):Int)]) h'/\h'.get r=aB (.lst ((bf (min n (m-1)) (1:Int)++bf (m-min n (m-1)) 0).map .int))/\h.n<=r/\Up h.n h h':=by
  intro c ec s;let k0:VH:=⟨h.n,h.n,h.os⟩
  let k1:=k0.new (.lst [.int 1]);let k2:=k1.new (.lst ((bf (min n (m-1)) (1:Int)).map .int));let k3:=k2.new (.lst [.int 0]);let k4:=k3.new (.lst ((bf (m-min n (m-1)) (0:Int)).map .int));let k5:=k4.new (.lst ((bf (min n (m-1)) 1++bf (m-min n (m-1)) (0:Int)).map .int));have eb:exs (run F k) (.seq (.ite c (.seq (.set 3 (.bi .min (.cons (.var 2) (.cons (.op .sub (.var 0) (.cst (.int (1)))) .nil)))) (.seq (.ret (.tup (.cons (.op .add (.op .mul (.lst (.cons (.cst (.int (1))) .nil)) (.var 3)) (.op .mul (.lst (.cons (.cst (.int (0))) .nil)) (.op .sub (.var 0) (.var 3)))) (.cons (.var 3) .nil)))) .skip)) .skip) s) [aB (.int (m:Int)),aB (aK back),aB (.int (n:Int)),aC,aC,aC] k0=.ok (.rt (.tup [.ref k4.n,.int ((min n (m-1):Nat):Int)])) k5:=by refine cQ ((fM ec).trans ?_);refine(aT (bJ (CS (aE rfl) (n:=m-1) (h2:=k0) (eN (aE rfl) rfl ?_)))).trans ?_;rw[iT,show(m:Int)-1=((m-1:Nat):Int) by lia];refine cQ (bS (cy (h1:=k5) (xw (l:=k1.n) (m:=k3.n) (h1:=k2) (h2:=k4) (kq rfl (aE rfl) (by lia)) (kq rfl (eN (aE rfl) (aE rfl) ?_) (by lia)) ?_ cY (by simp;lia)) (aE rfl)));rw[iT,show(m:Int)- ((min n (m-1):Nat):Int)=((m-min n (m-1):Nat):Int) by lia];exact(gE (show k1.n<k3.n from dS (jL _) (ly _))).trans ((gE (jL _)).trans cY)
  have u:Up h.n ⟨h.n,h.n,h.os⟩ k5:=Up.new (Up.new (Up.new (Up.new (Up.new .refl))));obtain⟨h2,e2,u2,G⟩:=Qp (h:=h) (w:=.tup [.ref k4.n,.int ((min n (m-1):Nat):Int)]) u (by
   have:Nat.blt (h.n+4) h.n=false:=by rw[<-Bool.not_eq_true,fD];lia
   show(Nat.blt (h.n+4) h.n&&_)=false;rw[this];rfl)
  refine⟨k4.n,h2,?_,?_,by show h.n<=h.n+4;lia,u2⟩;rw[<-e2];exact ku (fin h) eb;rw[G];exact cY
 cases back with
 |none=>exact short (.or (.cmp .ja (.var 1) (.cst .aI)) (.cmp .lt (.var 2) (.var 0))) rfl _
 |some b=>
  have hb:=hb b rfl;have ec:ev (run F k) (.or (.cmp .ja (.var 1) (.cst .aI)) (.cmp .lt (.var 2) (.var 0))) [aB (.int (m:Int)),aB (aK (aB b)),aB (.int (n:Int)),aC,aC,aC] ⟨h.n,h.n,h.os⟩=.ok (.bl (decide ((n:Int)< (m:Int)))) ⟨h.n,h.n,h.os⟩:=rfl;unfold ji;by_cases z:n<m;rw[gg (by lia)]at ec;simp only[if_pos z];exact short _ ec _;rw[fE (by lia)]at ec;simp only[if_neg z];have hd:((n:Int)- (b:Int))=((n-b:Nat):Int)/\((m:Int)- (b:Int))=((m-b:Nat):Int):=by lia
  have hr:=tF (n-b) (show 0<m-b by lia);have hq1:(((n-b:Nat):Int)/ ((m-b:Nat):Int))=(((n-b)/ (m-b):Nat):Int):=rfl;have hq2:(((n-b:Nat):Int) % ((m-b:Nat):Int))=(((n-b) % (m-b):Nat):Int):=rfl;generalize hQ:(n-b)/ (m-b)=q at *;generalize hR:(n-b) % (m-b)=t at *;let k0:VH:=⟨h.n,h.n,h.os⟩
  let k1:=k0.new (.lst [.int 1]);let k2:=k1.new (.lst ((bf b (1:Int)).map .int));let k3:=k2.new (.lst [.int ((q:Int)+1)]);let k4:=k3.new (.lst ((bf t ((q:Int)+1)).map .int));let k5:=k4.new (.lst ((bf b 1++bf t ((q:Int)+1)).map .int));let k6:=k5.new (.lst [.int (q:Int)]);let k7:=k6.new (.lst ((bf (m-b-t) (q:Int)).map .int));let k8:=k7.new (.lst ((bf b 1++bf t ((q:Int)+1)++bf (m-b-t) (q:Int)).map .int));have eb:exs (run F k) oX.body [aB (.int (m:Int)),aB (aK (aB b)),aB (.int (n:Int)),aC,aC,aC] k0=.ok (.rt (.tup [.ref k7.n,.int ((b+t:Nat):Int)])) k8:=by
   refine(aT (ρ':=[aB (.int (m:Int)),aB (aK (aB b)),aB (.int (n:Int)),aC,aC,aC]) (h':=k0) ((cD ec).trans rfl)).trans ?_;refine(aT (ρ':=[aB (.int (m:Int)),aB (aK (aB b)),aB (.int (n:Int)),aC,aB (.int (q:Int)),aB (.int (t:Int))]) (h':=k0) ?_).trans ?_;have e1:ev (run F k) (.bi .ES (.cons (.op .sub (.var 2) (.var 1)) (.cons (.op .sub (.var 0) (.var 1)) .nil))) [aB (.int (m:Int)),aB (aK (aB b)),aB (.int (n:Int)),aC,aC,aC] k0=.ok (.tup [.int (q:Int),.int (t:Int)]) k0:=by rw[ev,ev,eN (aE rfl) (aE rfl) (show ck .sub (.int (n:Int)) (.int (b:Int)) k0=.ok (.int ((n-b:Nat):Int)) k0 by rw[iT,hd.1]),aD,ev,eN (aE rfl) (aE rfl) (show ck .sub (.int (m:Int)) (.int (b:Int)) k0=.ok (.int ((m-b:Nat):Int)) k0 by rw[iT,hd.2]),aD,ev];show mQ [.int ((n-b:Nat):Int),.int ((m-b:Nat):Int)] k0=_;unfold mQ;dsimp only;rw[gg (show(0:Int)< ((m-b:Nat):Int) by lia),gg (show((m-b:Nat):Int)<1073741824 by lia)];simp only[xU,b9,hq1,hq2]
   rw[exs,e1,aD];rfl;refine cQ (bS (cy (h1:=k8) (xw (l:=k4.n) (m:=k6.n) (h1:=k5) (h2:=k7) (xw (l:=k1.n) (m:=k3.n) (h1:=k2) (h2:=k4) (kq rfl (aE rfl) (by lia)) (kq (eN (aE rfl) rfl pG) (aE rfl) (by lia)) ?_ cY (by simp;lia)) (kq (aE rfl) (eN (eN (aE rfl) (aE rfl) (show ck .sub (.int (m:Int)) (.int (b:Int)) k6=.ok (.int ((m-b:Nat):Int)) k6 by rw[iT,hd.2])) (aE rfl) ?_) (by lia)) ?_ cY (by simp;lia)) (eN (aE rfl) (aE rfl) ?_)));exact(gE (show k1.n<k3.n from dS (jL _) (ly _))).trans ((gE (jL _)).trans cY);rw[iT,show((m-b:Nat):Int)- (t:Int)=((m-b-t:Nat):Int) by lia];exact(gE (show k4.n<k6.n from dS (jL _) (ly _))).trans ((gE (jL _)).trans cY);rfl
  have u:Up h.n ⟨h.n,h.n,h.os⟩ k8:=Up.new (Up.new (Up.new (Up.new (Up.new (Up.new (Up.new (Up.new .refl)))))));obtain⟨h2,e2,u2,G⟩:=Qp (h:=h) (w:=.tup [.ref k7.n,.int ((b+t:Nat):Int)]) u (by
   have:Nat.blt (h.n+7) h.n=false:=by rw[<-Bool.not_eq_true,fD];lia
   show(Nat.blt (h.n+7) h.n&&_)=false;rw[this];rfl)
  refine⟨k7.n,h2,?_,?_,by show h.n<=h.n+7;lia,u2⟩;rw[<-e2];exact ku (fin h) eb;rw[G];exact cY
end
theorem Ku{c e:FE}{h:VH}{d:Nat}{kvs:List (Key×W)}{tl:En}{f:W->W}{p:W->Bool}(g:h.get d=aB (.dk kvs))(hc:∀kv∈kvs,c (aB (cX kv.1)::tl) h=.ok (.bl (p (cX kv.1))) h)(he:∀kv∈kvs,p (cX kv.1)=true->e (aB (cX kv.1)::tl) h=.ok (f (cX kv.1)) h) :
 ∀(fu i:Nat)(a:Option W)(acc:List W),i<=kvs.length->kvs.length<fu+i->eG (bw .keys (.ref d)) (bz (.one 0)) c e fu i (a::tl) h acc=.ok (acc.reverse++((kvs.drop i).filter λkv=>p (cX kv.1)).map λkv=>f (cX kv.1)) h
 |0,i,a,acc,hi,hl=>by lia
 |fu+1,i,a,acc,hi,hl=>by
  cases q:kvs[i]? with
  |none=>
   have hi':i=kvs.length:=by have:=ng.mp q;lia
   subst hi';rw[vc (bq _)];simp only[eG,bw,g,q,beq_self_eq_true,Nat.beq_refl,b9];simp
  |some kv=>
   obtain⟨hi,ee⟩:=jK.mp q;have hm:=l9 q;rw[u9 hi,ee,List.filter_cons];cases z:p (cX kv.1)with
   |true=>
    simp only[eG,bw,g,q,bz,gQ,hc kv hm,z,aD,he kv hm z,b9];rw[Ku g hc he fu (i+1) (aB (cX kv.1)) (f (cX kv.1)::acc) hi (by lia)];simp
   |false=>
    simp only[eG,bw,g,q,bz,gQ,hc kv hm,z,aD,eW,dF];rw[Ku g hc he fu (i+1) (aB (cX kv.1)) acc hi (by lia)]
theorem uT{nx:Nat->VH->Option (Option W)}{tg:W->VH->En->Option En}{b:FS}{fu i:Nat}{ρ jI pH:En}{h h2:VH}{w:W}(e1:nx i h=aB (aB w))(e2:tg w h ρ=aB jI)(e3:b jI h=.ok (.nx pH) h2):cJ nx tg b (fu+1) i ρ h=cJ nx tg b fu (i+1) pH h2:=by rw[cJ,e1];dsimp only;rw[e2];dsimp only;rw[e3,aD]
theorem CT{nx:Nat->VH->Option (Option W)}{tg:W->VH->En->Option En}{b:FS}{fu i:Nat}{ρ:En}{h:VH}(e1:nx i h=aB aC):cJ nx tg b (fu+1) i ρ h=.ok (.nx ρ) h:=by rw[cJ,e1]
theorem Qq{f tm:Nat->Int}{x:Int}(h:∀j,0<=tm j):∀n,0<=jy f tm x n
 |0=>xX _
 |n+1=>by
  have:=Qq (f:=f) (x:=x) h n;have:=h n;rw[jy];split<;>lia
theorem zwo{ts:List Int}(h:∀t∈ts,0<=t)(j:Nat):0<=ts.getD j 0:=by
 rw[kH];cases z:ts[j]? with|none=>exact xX _|some t=>exact h t (l9 z)
theorem Qs{h:VH}{ws zs:List W}{r i:Nat}(g:h.get r=aB (.lst zs)):bw .zip (.tup [.tup ws,.ref r]) i h=aB (match ws[i]?,zs[i]? with|some a,aB b=>aB (.tup [a,b])|_,_=>aC):=by
 simp only[bw,aN,g]
 try(cases ws[i]?<;>cases zs[i]?<;>rfl)
noncomputable abbrev iU(B p n xs bk:W)(r:Nat)(la:W)(d:Nat)(x8 x9 xy kW kX kr:Option W):En:=[aB B,aB p,aB n,aB xs,aB bk,aB (.ref r),aB la,aB (.ref d),x8,x9,xy,kW,kX,kr]
structure Rk(ns ks:List Int)(f:Int->Int)(nf:Nat->Int)(ts:List Int)(j:Nat):Prop where
 dn:DN ns ks f
 eq:∀x,f x=jy nf (λj=>ts.getD j 0) x j
 pos:∀x,x∈ks↔0<f x
section
variable{F:Nat->Option Fn}{k:Nat}{B p n bk la:W}{xs:List aY}{ts ns:List Int}{nf:Nat->Int}{r d bs:Nat}
theorem zwp{j:Nat}{s:aY}{t:Int}{ks:List Int}{f:Int->Int}{h:VH}{kW kX kr:Option W}(hns:ns.length<=900)(hco:0<t->nf j∈ns/\∀h,∃c q,run F k 176 [B,iW s.1,bA s.2,.aI] h=.ok (.tup [.tup [nW (nf j),c],q]) h)(nn:∀t∈ts,0<=t)(ht:ts[j]?=aB t)
 (hd:bs<=d) (hne:r≠d) (gr:h.get r=aB (.lst (ts.map .int))) (gd:h.get d=aB (.dm (eO ks f))) (R:Rk ns ks f nf ts j) :
 ∃uU uV ks' f' h',exs (run F k) Js (iU B p n (.tup (xs.map aG)) bk r la d (aB (iW s.1)) (aB (bA s.2)) (aB (.int t)) kW kX kr) h=.ok (.nx (iU B p n (.tup (xs.map aG)) bk r la d (aB (iW s.1)) (aB (bA s.2)) (aB (.int t)) uU uV kr)) h'/\h'.get r=aB (.lst (ts.map .int))/\h'.get d=aB (.dm (eO ks' f'))/\Rk ns ks' f' nf ts (j+1)/\Up bs h h':=by
 have ht':ts.getD j 0=t:=by rw[kH,ht];rfl
 have t0:=nn t (l9 ht);have hpos:=λx=>Qq (f:=nf) (x:=x) (zwo nn) j;have ec:ev (run F k) (.cmp .gt (.var 10) (.cst (.int (0)))) (iU B p n (.tup (xs.map aG)) bk r la d (aB (iW s.1)) (aB (bA s.2)) (aB (.int t)) kW kX kr) h=.ok (.bl (decide (0<t))) h:=rfl;by_cases z:0<t;obtain⟨hm,hr⟩:=hco z;obtain⟨c,q,Kv⟩:=hr h;rw[gg z]at ec;have gs:=uK (o:=.dm (eO (ie ks (nf j)) (fZ f (nf j) (f (nf j)+t)))) gd;refine⟨aB (.tup [nW (nf j),c]),aB q,ie ks (nf j),fZ f (nf j) (f (nf j)+t),_,?_,(o4 gd hne).trans gr,gs,⟨R.dn.add hm,λx=>?_,λx=>?_⟩,Up.set .refl gd hd⟩;refine(aT (ρ':=iU B p n (.tup (xs.map aG)) bk r la d (aB (iW s.1)) (aB (bA s.2)) (aB (.int t)) (aB (.tup [nW (nf j),c])) (aB q) kr) ((fM ec).trans ?_)).trans rfl;refine(aT (ρ':=iU B p n (.tup (xs.map aG)) bk r la d (aB (iW s.1)) (aB (bA s.2)) (aB (.int t)) (aB (.tup [nW (nf j),c])) (aB q) kr) (h':=h) ?_).trans ?_;rw[exs,CG (aE rfl) (aE rfl) (aE rfl) rfl Kv,aD];rfl;refine(aT (uR (w:=.int (f (nf j)+t)) (eN (uQ rfl gd (bY (aE rfl) rfl rfl)) (aE rfl) ?_) (aE rfl) (bY (x:=.tup [nW (nf j),c]) (aE rfl) rfl rfl) gd ?_)).trans ?_;rw[R.dn.look,pG];have:=R.dn.len;unfold eO;rw[bF];lia;rw[Qm];rfl;unfold fZ;rw[jy,ht',<-R.eq x];by_cases e:x=nf j;rw[if_pos e,if_pos e.symm,e];rw[if_neg e,if_neg (λq=>e q.symm)];lia;rw[Gu,R.pos x];unfold fZ;by_cases e:x=nf j;have:=hpos (nf j);rw[<-R.eq]at this;rw[if_pos e];exact⟨λ_=>by lia,λ_=>.inr e⟩;rw[if_neg e];exact⟨λq=>q.resolve_right e,.inl⟩;rw[fE z]at ec;have tz:t=0:=by lia
 refine⟨kW,kX,ks,f,h,(aT (ρ':=iU B p n (.tup (xs.map aG)) bk r la d (aB (iW s.1)) (aB (bA s.2)) (aB (.int t)) kW kX kr) (h':=h) ((cD ec).trans rfl)).trans rfl,gr,gd,⟨R.dn,λx=>?_,R.pos⟩,.refl⟩;rw[jy,ht',<-R.eq x,tz];split<;>lia
theorem Qt{kr:Option W}(hts:ts.length=xs.length)(hns:ns.length<=900)(hco:∀(j:Nat) (s:aY) (t:Int),xs[j]?=aB s->ts[j]?=aB t->0<t->nf j∈ns/\∀h,∃c q,run F k 176 [B,iW s.1,bA s.2,.aI] h=.ok (.tup [.tup [nW (nf j),c],q]) h)(nn:∀t∈ts,0<=t)
 (hd:bs<=d) (hne:r≠d):∀(m j fu:Nat)(x8 x9 xy kW kX:Option W)(ks:List Int)(f:Int->Int)(h:VH),j+m=xs.length->m<fu->h.get r=aB (.lst (ts.map .int))->h.get d=aB (.dm (eO ks f))->Rk ns ks f nf ts j->
 ∃y8 y9 Gv uU uV ks' f' h',cJ (bw .zip (.tup [.tup (xs.map aG),.ref r])) (bz (.two [8,9] 10)) (exs (run F k) Js) fu j (iU B p n (.tup (xs.map aG)) bk r la d x8 x9 xy kW kX kr) h=.ok (.nx (iU B p n (.tup (xs.map aG)) bk r la d y8 y9 Gv uU uV kr)) h'/\h'.get r=aB (.lst (ts.map .int))/\h'.get d=aB (.dm (eO ks' f'))/\Rk ns ks' f' nf ts xs.length/\Up bs h h'
 |m,j,0,x8,x9,xy,kW,kX,ks,f,h,hj,hfu,gr,gd,R=>by lia
 |0,j,fu+1,x8,x9,xy,kW,kX,ks,f,h,hj,hfu,gr,gd,R=>by
  have hj:j=xs.length:=by lia
  subst hj;refine⟨x8,x9,xy,kW,kX,ks,f,h,CT ?_,gr,gd,R,.refl⟩;rw[Qs gr,qp (by simp)]
 |m+1,j,fu+1,x8,x9,xy,kW,kX,ks,f,h,hj,hfu,gr,gd,R=>by
  have h1:xs[j]?=aB xs[j]:=iA (by lia);have h2:ts[j]?=aB ts[j]:=iA (by lia);generalize xs[j]=s at h1;generalize ts[j]=t at h2;obtain⟨uU,uV,Kw,f1,h',e,gr',gd',R',u⟩:=zwp (F:=F) (k:=k) (B:=B) (p:=p) (n:=n) (bk:=bk) (la:=la) (xs:=xs) (kW:=kW) (kX:=kX) (kr:=kr) hns (λz=>hco j s t h1 h2 z) nn h2 hd hne gr gd R;obtain⟨z8,z9,z10,z11,z12,Ky,f2,h2',e2,a1,a2,a3,u2⟩:=Qt (kr:=kr) hts hns hco nn hd hne m (j+1) fu (aB (iW s.1)) (aB (bA s.2)) (aB (.int t)) uU uV Kw f1 h' (by lia) (by lia) gr' gd' R';refine⟨z8,z9,z10,z11,z12,Ky,f2,h2',?_,a1,a2,a3,u.trans u2⟩;refine(uT (w:=.tup [aG s,.int t]) (jI:=iU B p n (.tup (xs.map aG)) bk r la d (aB (iW s.1)) (aB (bA s.2)) (aB (.int t)) kW kX kr) ?_ rfl e).trans e2;rw[Qs gr,iC,iC,h1,h2];rfl
end
theorem zmy{m n:Nat}{back:Option Nat}(hb:∀b,back=aB b->b<m):(ji m back n).1.length=m/\∀t∈(ji m back n).1,(0:Int)<=t:=by
 have h1:∀t∈bf (min n (m-1)) (1:Int)++bf (m-min n (m-1)) 0,(0:Int)<=t:=λt ht=>by
  rcases nh.mp ht with q|q<;>rw[(DI.mp q).2]<;>decide
 cases back with
 |none=>exact⟨by simp[ji];lia,h1⟩
 |some b=>
  have:=hb b rfl;unfold ji;by_cases z:n<m;simp only[if_pos z];exact⟨by simp;lia,h1⟩;have hr:=tF (n-b) (show 0<m-b by lia);simp only[if_neg z];refine⟨by simp;lia,λt ht=>?_⟩;rcases nh.mp ht with q|q
  rcases nh.mp q with q|q<;>rw[(DI.mp q).2];decide;exact Int.add_nonneg (Int.natCast_nonneg _) (by decide);rw[(DI.mp q).2];exact Int.natCast_nonneg _
theorem Kz{ps:List (Int×Int)}:Pl (.tup (ps.map wP)):=Pl.tup λw hw=>by
 obtain⟨p,_,rfl⟩:=jh.mp hw;exact Pl.tup λw hw=>by
  simp only[eV,nG,ny]at hw;rcases hw with rfl|rfl<;>exact Pl.int
theorem Qu{s:aY}:Pl (aG s):=λn=>Gi
theorem CU{cl:Call}{a:E}{ρ:En}{h h1:VH}{l:Nat}{ws ys:List W}(ea:ev cl a ρ h=.ok (.ref l) h1)(g:h1.get l=aB (.lst ws))(hl:ws.length<64)(e:j6 ws=aB ys):ev cl (.bi .AS (.cons a .nil)) ρ h=.ok (.ref h1.n) (h1.new (.lst ys)):=by rw[ev,ev,ea,aD,ev];show mS [.ref l] h1=_;have:Nat.blt ws.length 64=true:=fD.mpr hl;simp only[mS,g,this,b9,e]
theorem uW{cl:Call}{a:E}{ρ:En}{h h1:VH}{l:Nat}{ws:List W}(ea:ev cl a ρ h=.ok (.ref l) h1)(g:h1.get l=aB (.lst ws)):ev cl (.bi .tuple (.cons a .nil)) ρ h=.ok (.tup ws) h1:=by rw[ev,ev,ea,aD,ev];show om [.ref l] h1=_;simp only[om,aN,g,aR]
section
variable{F:Nat->Option Fn}(xx:F 61=aB oX)(sW:F 206=aB kg)
include xx sW
theorem zsq{k n:Nat}{B:W}{xs:List aY}{bk:Option Nat}{ns:List Int}{nf:Nat->Int}{h:VH}{sl:aY}(x1:1<=xs.length)(x2:xs.length<=1281)(hb:∀b,bk=aB b->b<xs.length)(hns:ns.length<=60)
 (hco:∀(j:Nat)(s:aY)(t:Int),xs[j]?=aB s->(ji xs.length bk n).1[j]?=aB t->0<t->nf j∈ns/\∀h,∃c q,run F (k+4) 176 [B,iW s.1,bA s.2,.aI] h=.ok (.tup [.tup [nW (nf j),c],q]) h) (hsl:xs[(ji xs.length bk n).2]?=aB sl) :
 ∃ks f,Rk ns ks f nf (ji xs.length bk n).1 xs.length/\run F (k+5) 206 [B,eg (xs,bk),.int (n:Int)] h=.ok (.tup [aG sl,.tup ((dD (λp:Int×Int=>p.1) ((ks.filter λx=>decide (x≠-1)).map λx=>(x,f x))).map wP),.int (ji xs.length bk n).1.sum]) h:=by
 rw[cA sW rfl];obtain⟨r,h1,e1,g1,hr,u1⟩:=zsp xx (k:=k+3) (n:=n) (h:=⟨h.n,h.n,h.os⟩) x1 x2 hb;obtain⟨tl,tn⟩:=zmy (n:=n) hb;generalize hT:ji xs.length bk n=T at *;have hrl:=cK g1;have hh1:h.n<=h1.n:=u1.le;let h2:=h1.new (.dm (eO [] λ_=>0));have g2:h2.get r=aB (.lst (T.1.map .int)):=(gE hrl).trans g1;have KA:h2.get h1.n=aB (.dm (eO [] λ_=>0)):=cY;obtain⟨y8,y9,Gv,uU,uV,ks,f,h3,e3,g3,Gy,R,u3⟩:=Qt (F:=F) (k:=k+4) (B:=B) (p:=eg (xs,bk)) (n:=.int (n:Int)) (bk:=aK bk) (la:=.int (T.2:Int)) (kr:=aC) (bs:=h.n) (d:=h1.n) (r:=r) tl (by lia) hco tn (by lia) (fB hrl) xs.length 0 fuel aC aC aC aC aC [] (λ_=>0) h2 (by lia) (by unfold fuel;lia) g2 KA ⟨DN.nil,λ_=>rfl,λx=>⟨λz=>(nomatch z),λz=>absurd z (by decide)⟩⟩;refine⟨ks,f,R,?_⟩;have hkl:=R.dn.len;let h4:=h3.set h1.n (.dk (eO ks f));have Qv:h4.get h1.n=aB (.dk (eO ks f)):=uK Gy;have g4:h4.get r=aB (.lst (T.1.map .int)):=(o4 Gy (fB hrl)).trans g3;let ys:List W:=((ks.filter λx=>decide (x≠-1)).map λx=>(x,f x)).map wP;have hyl:ys.length<=ks.length:=by show(((ks.filter λx=>decide (x≠-1)).map λx=>(x,f x)).map wP).length<=_;rw[bF,bF];exact List.length_filter_le _ _
 let h5:=h4.new (.lst ys);let zs:List W:=(dD (λp:Int×Int=>p.1) ((ks.filter λx=>decide (x≠-1)).map λx=>(x,f x))).map wP;let h6:=h5.new (.lst zs);have Gz:eG (bw .keys (.ref h1.n)) (bz (.one 0)) (ev (run F (k+4)) Cc) (ev (run F (k+4)) Cd) fuel 0 [aC,aB (.ref h1.n)] h4 []=.ok ys h4:=by
  have:=Ku (c:=ev (run F (k+4)) Cc) (e:=ev (run F (k+4)) Cd) (tl:=[aB (.ref h1.n)]) (f:=λw=>match w with|.int x=>.tup [.int x,.int (f x)]|w=>w) (p:=λw=>!bB w) Qv (λkv hkv=>by
   unfold Cc;rw[ev,aE rfl,aD];rfl) (λkv hkv hp=>by
   obtain⟨x,hx,rfl⟩:=jh.mp hkv;have hp:(!bB (cX (kZ x)))=true:=hp;have hz:x≠-1:=λz=>by rw[z]at hp;cases hp
   show ev _ Cd (aB (cX (kZ x))::_) h4=.ok ((λw=>match w with|.int x=>.tup [.int x,.int (f x)]|w=>w) (cX (kZ x))) h4;rw[Gq,gW hz];refine cy (aE rfl) (bY (aE rfl) (aE rfl) ?_);show(match h4.get h1.n with|some (.lst ws)=>L2.cz ws x|some (.dk kvs)=>bE kvs (.inl x)|some (.dm kvs)=>bE kvs (.inl x)|_=>aC)=_
   rw[Qv];show bE (eO ks f) (.inl x)=_;rw[<-sV hz,Gs,if_pos hx]) fuel 0 aC [] (gX _) (by unfold eO fuel;rw[bF];lia)
  rw[this,tB,DJ,qx];congr 1;show _=((ks.filter λx=>decide (x≠-1)).map λx=>(x,f x)).map wP;unfold eO;rw[List.filter_map,qy,qy];have hf:((λkv:Key×W=>!bB (cX kv.1))∘λx=>(kZ x,W.int (f x)))=λx=>decide (x≠-1):=funext λx=>by
   show(!bB (cX (kZ x)))=_;rw[Gq];by_cases z:x=-1;subst z;rfl;rw[gW z,gg z];rfl
  rw[hf];refine xN λx hx=>?_;have hz:x≠-1:=jP (vf.mp hx).2;show(match cX (kZ x)with|.int x=>W.tup [.int x,.int (f x)]|w=>w)=_;rw[Gq,gW hz];rfl
 have eb:exs (run F (k+4)) kg.body [aB B,aB (eg (xs,bk)),aB (.int (n:Int)),aC,aC,aC,aC,aC,aC,aC,aC,aC,aC,aC] ⟨h.n,h.n,h.os⟩=.ok (.rt (.tup [aG sl,.tup zs,.int T.1.sum])) h6:=by
  refine(aT (ρ':=[aB B,aB (eg (xs,bk)),aB (.int (n:Int)),aB (.tup (xs.map aG)),aB (aK bk),aC,aC,aC,aC,aC,aC,aC,aC,aC]) (h':=⟨h.n,h.n,h.os⟩) rfl).trans ?_;refine(aT (ρ':=[aB B,aB (eg (xs,bk)),aB (.int (n:Int)),aB (.tup (xs.map aG)),aB (aK bk),aB (.ref r),aB (.int (T.2:Int)),aC,aC,aC,aC,aC,aC,aC]) (h':=h1) ?_).trans ?_;have el:=ic (cl:=run F (k+4)) (a:=.var 3) (ρ:=[aB B,aB (eg (xs,bk)),aB (.int (n:Int)),aB (.tup (xs.map aG)),aB (aK bk),aC,aC,aC,aC,aC,aC,aC,aC,aC]) (h:=⟨h.n,h.n,h.os⟩) (ws:=xs.map aG) (aE rfl) rfl;rw[bF]at el;rw[exs,pA el (aE rfl) (aE rfl) e1,aD];rfl;refine(aT (bJ (x:=.ref h1.n) (h1:=h2) rfl)).trans ?_;refine(aT (ρ':=iU B (eg (xs,bk)) (.int (n:Int)) (.tup (xs.map aG)) (aK bk) r (.int (T.2:Int)) h1.n y8 y9 Gv uU uV aC) (h':=h3) ?_).trans ?_;rw[exs,ev,aE rfl,aD,ev,aE rfl,aD,ev];exact e3;refine(aT (bJ (x:=.ref h4.n) (h1:=h5) ?_)).trans ?_;rw[ev];have efz:ev (run F (k+4)) (.bi .bN (.cons (.var 7) .nil)) (iU B (eg (xs,bk)) (.int (n:Int)) (.tup (xs.map aG)) (aK bk) r (.int (T.2:Int)) h1.n y8 y9 Gv uU uV aC) h3=.ok (.ref h1.n) h4:=by rw[ev,ev,aE rfl,aD,ev];show mT [.ref h1.n] h3=_;simp only[mT,Gy];rfl
  rw[efz,aD];show Res.bind (eG (bw .keys (.ref h1.n)) (bz (.one 0)) (ev (run F (k+4)) Cc) (ev (run F (k+4)) Cd) fuel 0 [aC,aB (.ref h1.n)] h4 []) _=_;rw[Gz,aD,uL (by lia),if_pos rfl];refine cQ (bS (lW (h1:=h5) (h2:=h6) (h3:=h6) (bY (aE rfl) (aE rfl) ?_) (uW (CU (l:=h4.n) (aE rfl) cY (by lia) (zp8 ?_)) cY) ?_));show L2.cz (xs.map aG) (T.2:Int)=_;exact pY (by rw[iC,hsl];rfl);rw[qy];have:(λp:Int×Int=>p.1)∘ (λx:Int=>(x,f x))=id:=rfl;rw[this,List.map_id];exact zu _ R.dn.nd;rw[ev,ev,aE rfl,aD,ev];refine Ks T.1 ?_;have l4:r<h4.n:=cK g4;exact(gE (show r<h5.n from tD l4)).trans ((gE l4).trans g4)
 show fin h (exs (run F (k+4)) kg.body [aB B,aB (eg (xs,bk)),aB (.int (n:Int)),aC,aC,aC,aC,aC,aC,aC,aC,aC,aC,aC] ⟨h.n,h.n,h.os⟩)=_;rw[eb];refine Gp (Up.new (Up.new (((u1.new).trans u3).set Gy (by lia)))) (Pl.tup λw hw=>?_);simp only[eV,nG,ny]at hw;rcases hw with rfl|rfl|rfl
 exact Qu;exact Kz;exact Pl.int
end
theorem z07{cl:Call}{a:E}{ρ:En}{h:VH}{d:Nat}{ks:List Int}{f:Int->Int}(ea:ev cl a ρ h=.ok (.ref d) h)(h1:-1∉ks)(g:h.get d=aB (.dm (eO ks f))):ev cl (.bi .list (.cons a .nil)) ρ h=.ok (.ref h.n) (h.new (.lst (ks.map .int))):=by rw[ev,ev,ea,aD,ev];show gS [.ref d] h=_;simp only[gS,aN,oj,g];unfold eO;rw[qy];congr 3;refine xN λx hx=>?_;show cX (kZ x)=_;rw[Gq,gW λz=>h1 (z▸hx)]
noncomputable def kF:List Int->Int->Int|[],_=>0|n::r,x=>(if n=x then 1 else 0)+kF r x
theorem Qw{x:Int}:∀a b:List Int,kF (a++b) x=kF a x+kF b x
 |[],b=>by simp[kF]
 |n::r,b=>by
  rw[nD,kF,kF,Qw r b];lia
theorem CV{f:Nat->Int}{x:Int}{a:Nat}:∀n,kF (seg f a n) x=cs f x a n
 |0=>rfl
 |n+1=>by
  rw[LH,Qw,CV n];unfold cs;rw[cnt];show _+ ((if f (a+n)=x then 1 else 0)+0)=_;lia
noncomputable abbrev Pt:=Nat×List Int×Int
noncomputable def gs(x:Int):List Pt->Int|[]=>0|p::r=>p.2.2*kF p.2.1 x+gs x r
noncomputable def qm(p:Pt):W:=.tup [.ref p.1,.int p.2.2]
theorem pI{h:VH}{c j:Nat}{ws:List W}(g:h.get c=aB (.lst ws)):bw .seq (.ref c) j h=aB ws[j]?:=by simp only[bw,aN,g,dO]
section
variable{cl:Call}{p:W}{d:Nat}{N:List Int}(hN:N.length<=60)(h1:-1∉N)
include hN h1
theorem pJ{c:Nat}{t:Int}{ns:List Int}(hin:∀x∈ns,x≠-1->x∈N)(hne:c<d):∀(m j fu:Nat) (x4:Option W) (ks:List Int) (f:Int->Int) (h:VH),j+m=ns.length->m<fu->h.get c=aB (.lst (ns.map nW))->h.get d=aB (.dm (eO ks f))->DN N ks f->
 ∃y4 ks' f' h',cJ (bw .seq (.ref c)) (bz (.one 4)) (exs cl FF) fu j [aB p,aB (.ref d),aB (.ref c),aB (.int t),x4] h=.ok (.nx [aB p,aB (.ref d),aB (.ref c),aB (.int t),y4]) h'/\h'.get d=aB (.dm (eO ks' f'))/\DN N ks' f'/\(∀x,x≠-1->f' x=f x+t*kF (ns.drop j) x)/\Up d h h'
 |m,j,0,x4,ks,f,h,hj,hfu,gc,gd,D=>by lia
 |0,j,fu+1,x4,ks,f,h,hj,hfu,gc,gd,D=>by
  refine⟨x4,ks,f,h,CT ?_,gd,D,λx _=>?_,.refl⟩;rw[pI gc,qp (by rw[bF];lia)];rw[vc (by lia)];show f x=f x+t*0;rw[Int.mul_zero,Int.add_zero]
 |m+1,j,fu+1,x4,ks,f,h,hj,hfu,gc,gd,D=>by
  have hl:j<ns.length:=by lia
  have e1:bw .seq (.ref c) j h=aB (aB (nW ns[j])):=by rw[pI gc,iC,iA hl];rfl
  have hd:ns.drop j=ns[j]::ns.drop (j+1):=u9 hl;have hmem:ns[j]∈ns:=nF hl;generalize ns[j]=y at *;by_cases z:y=-1;obtain⟨y4,ks',f',h',e,g',D',hf,u⟩:=pJ hin hne m (j+1) fu (aB (nW y)) ks f h (by lia) (by lia) gc gd D;refine⟨y4,ks',f',h',?_,g',D',λx hx=>?_,u⟩;refine(uT (w:=nW y) (jI:=[aB p,aB (.ref d),aB (.ref c),aB (.int t),aB (nW y)]) e1 rfl ?_).trans e;unfold FF;rw[z];exact(aT ((cD (h1:=h) rfl).trans rfl)).trans rfl;rw[hf x hx,hd,kF,if_neg (λq=>hx (q.symm.trans z)),DS];have gs':=uK (o:=.dm (eO (ie ks y) (fZ f y (f y+t)))) gd;obtain⟨y4,ks',f',h',e,g',D',hf,u⟩:=pJ hin hne m (j+1) fu (aB (nW y)) (ie ks y) (fZ f y (f y+t)) (h.set d (.dm (eO (ie ks y) (fZ f y (f y+t))))) (by lia) (by lia) ((o4 gd (by lia)).trans gc) gs' (D.add (hin y hmem z));refine⟨y4,ks',f',h',?_,g',D',λx hx=>?_,(Up.set .refl gd (bq _)).trans u⟩;refine(uT (w:=nW y) (jI:=[aB p,aB (.ref d),aB (.ref c),aB (.int t),aB (nW y)]) (pH:=[aB p,aB (.ref d),aB (.ref c),aB (.int t),aB (nW y)]) (h2:=h.set d (.dm (eO (ie ks y) (fZ f y (f y+t))))) e1 rfl ?_).trans e;unfold FF;have ec:ev cl (.cmp .gK (.var 4) (.cst .aI)) [aB p,aB (.ref d),aB (.ref c),aB (.int t),aB (nW y)] h=.ok (.bl true) h:=by rw[gW z];rfl
  have hlen:(eO ks f).length<1000:=by have:=D.len;unfold eO;rw[bF];lia
  have ep:=uR (cl:=cl) (o:=.var 1) (i:=.var 4) (v:=.op .add (.mt .get (.var 1) (.cons (.var 4) (.cons (.cst (.int (0))) .nil))) (.var 3)) (ρ:=[aB p,aB (.ref d),aB (.ref c),aB (.int t),aB (nW y)]) (h:=h) (d:=d) (x:=y) (w:=.int (f y+t)) (kvs:=eO ks f) (eN (uQ rfl gd (aE rfl)) (aE rfl) (by rw[D.look,pG])) (aE rfl) (aE rfl) gd hlen;rw[Qm]at ep;exact(aT ((fM ec).trans ((aT ep).trans rfl))).trans rfl;rw[hf x hx,hd,kF,DU];unfold fZ;by_cases q:x=y;rw[if_pos q,if_pos q.symm,q];lia;rw[if_neg q,if_neg (λr=>q r.symm)];lia
theorem Qx{pp:Nat}{qs:List Pt}(hin:∀q∈qs,q.1<d/\q.2.1.length<1000000/\∀x∈q.2.1,x≠-1->x∈N)(hpp:pp<d):∀(m j fu:Nat) (x2 x3 x4:Option W) (ks:List Int) (f:Int->Int) (h:VH),j+m=qs.length->m<fu->h.get pp=aB (.lst (qs.map qm))->(∀q∈qs,h.get q.1=aB (.lst (q.2.1.map nW)))->h.get d=aB (.dm (eO ks f))->DN N ks f->
 ∃y2 y3 y4 ks' f' h',cJ (bw .seq (.ref pp)) (bz (.many [2,3])) (exs cl Jt) fu j [aB (.ref pp),aB (.ref d),x2,x3,x4] h=.ok (.nx [aB (.ref pp),aB (.ref d),y2,y3,y4]) h'/\h'.get d=aB (.dm (eO ks' f'))/\DN N ks' f'/\(∀x,x≠-1->f' x=f x+gs x (qs.drop j))/\Up d h h'
 |m,j,0,x2,x3,x4,ks,f,h,hj,hfu,gp,gq,gd,D=>by lia
 |0,j,fu+1,x2,x3,x4,ks,f,h,hj,hfu,gp,gq,gd,D=>by
  refine⟨x2,x3,x4,ks,f,h,CT ?_,gd,D,λx _=>?_,.refl⟩;rw[pI gp,qp (by rw[bF];lia)];rw[vc (by lia)];show f x=f x+0;rw[Int.add_zero]
 |m+1,j,fu+1,x2,x3,x4,ks,f,h,hj,hfu,gp,gq,gd,D=>by
  have hl:j<qs.length:=by lia
  have e1:bw .seq (.ref pp) j h=aB (aB (qm qs[j])):=by rw[pI gp,iC,iA hl];rfl
  have hd:qs.drop j=qs[j]::qs.drop (j+1):=u9 hl;have hmem:qs[j]∈qs:=nF hl;generalize qs[j]=q at *;obtain⟨c,ns,t⟩:=q;obtain⟨a1,a2,a3⟩:=hin _ hmem;obtain⟨y4,Kw,f1,hb,eb,gb,Db,hf1,ub⟩:=pJ (cl:=cl) (p:=.ref pp) hN h1 (t:=t) a3 a1 ns.length 0 fuel x4 ks f h (by lia) (by unfold fuel;exact a2) (gq _ hmem) gd D;obtain⟨z2,z3,z4,Ky,f2,h2,e2,g2,D2,hf2,u2⟩:=Qx hin hpp m (j+1) fu (aB (.ref c)) (aB (.int t)) y4 Kw f1 hb (by lia) (by lia) (ub.get _ _ hpp gp) (λq hq=>ub.get _ _ (hin q hq).1 (gq q hq)) gb Db;refine⟨z2,z3,z4,Ky,f2,h2,?_,g2,D2,λx hx=>?_,ub.trans u2⟩;refine(uT (w:=qm (c,ns,t)) (jI:=[aB (.ref pp),aB (.ref d),aB (.ref c),aB (.int t),x4]) e1 rfl ?_).trans e2;unfold Jt;refine(aT (ρ':=[aB (.ref pp),aB (.ref d),aB (.ref c),aB (.int t),y4]) (h':=hb) ?_).trans rfl;rw[exs,aE rfl,aD];exact eb;rw[hf2 x hx,hf1 x hx,tB,hd,gs];lia
end
noncomputable def za:List Int:=(List.range 100).map λ(i:Nat)=>(i:Int)
theorem z08:za.Nodup:=by decide
theorem KC{x:Int}:x∈za↔0<=x/\x<=99:=by unfold za;rw[jh];constructor;rintro⟨i,h,rfl⟩;have:=tw.mp h;lia;rintro⟨h0,h9⟩;exact⟨x.toNat,tw.mpr (by lia),by lia⟩
noncomputable def prs(g:Int->Int):List (Int×Int):=dD (λp:Int×Int=>p.1) ((za.filter λx=>decide (0<g x)).map λx=>(x,g x))
theorem zqd{g g':Int->Int}(h:∀x,0<=x->x<=99->g x=g' x):prs g=prs g':=by
 unfold prs;have e:(za.filter λx=>decide (0<g x))=za.filter λx=>decide (0<g' x):=List.filter_congr λx hx=>by
  obtain⟨h0,h9⟩:=KC.mp hx;rw[h x h0 h9]
 rw[e];congr 1;refine xN λx hx=>?_;obtain⟨h0,h9⟩:=KC.mp (vf.mp hx).1;rw[h x h0 h9]
theorem Qy{g:Int->Int}{ms:List Int}(nd:ms.Nodup)(h9:∀x∈ms,0<=x/\x<=99)(ho:∀x,0<=x->x<=99->x∉ms->g x<=0):((dD id ms).filter λx=>decide (0<g x)).map (λx=>(x,g x))=prs g:=
 Qo (zu _ z08) nd λx=>by
  rw[vf,gH,KC];constructor;intro⟨⟨a,b⟩,c⟩;refine⟨?_,c⟩;by_cases z:x∈ms;exact z;have:=ho x a b z;lia;intro⟨a,b⟩;exact⟨h9 x a,b⟩
theorem zsr{g:Int->Int}{ks:List Int}(nd:ks.Nodup)(h:∀x,x∈ks↔(0<=x/\x<=99)/\0<g x):dD (λp:Int×Int=>p.1) (ks.map λx=>(x,g x))=prs g:=by have h1:=Qo (c:=g) nd nd (λx=>⟨λq=>⟨q,((h x).mp q).2⟩,λq=>q.1⟩);rw[<-h1];refine Qy nd (λx hx=>((h x).mp hx).1) λx a b z=>?_;by_cases q:0<g x;exact absurd ((h x).mpr ⟨⟨a,b⟩,q⟩) z;lia
theorem zqe{F:Nat->Option Fn}(ig:F 164=aB jt){k:Nat}{h:VH}{pp:Nat}{qs:List Pt}{N:List Int}(hN:N.length<=60)(h9:∀x∈N,0<=x/\x<=99)(hq:qs.length<1000)(hin:∀q∈qs,h.get q.1=aB (.lst (q.2.1.map nW))/\q.2.1.length<1000000/\∀x∈q.2.1,x≠-1->x∈N)(hp:h.get pp=aB (.lst (qs.map qm))) :
 run F (k+1) 164 [.ref pp] h=.ok (.tup ((prs λx=>gs x qs).map wP)) h:=by
 rw[cA ig rfl];have h1:-1∉N:=λz=>by have:=h9 _ z;lia
 let k0:VH:=⟨h.n,h.n,h.os⟩
 let k1:=k0.new (.dm (eO [] λ_=>0));have gd1:k1.get h.n=aB (.dm (eO [] λ_=>0)):=cY (h:=k0);have old:∀i o,h.get i=aB o->k1.get i=aB o:=λi o e=>(gE (h:=k0) (cK e)).trans e;obtain⟨y2,y3,y4,ks,f,h2,e2,g2,D,hf,u⟩:=Qx (cl:=run F k) (d:=h.n) hN h1 (pp:=pp) (qs:=qs) (λq hq=>⟨cK (hin q hq).1,(hin q hq).2⟩) (cK hp) qs.length 0 fuel aC aC aC [] (λ_=>0) k1 (by lia) (by unfold fuel;lia) (old _ _ hp) (λq hq=>old _ _ (hin q hq).1) gd1 DN.nil;have hk1:-1∉ks:=λz=>h1 (D.sub _ z);have hkl:=D.len;let h3:=h2.new (.lst (ks.map .int));let h4:=h3.new (.lst ((dD id ks).map .int));have g4:h4.get h3.n=aB (.lst ((dD id ks).map .int)):=cY;have d4:h4.get h.n=aB (.dm (eO ks f)):=(gE (show h.n<h3.n from tD (cK g2))).trans ((gE (cK g2)).trans g2);let zs:List W:=((dD id ks).map W.int).filter λw=>match w with|.int x=>decide (0<f x)|_=>false
 have Gz:eG (bw .seq (.ref h3.n)) (bz (.one 0)) (ev (run F k) Ce) (ev (run F k) FG) fuel 0 [aC,aB (.ref h.n)] h4 []=.ok ((prs f).map wP) h4:=by
  have look:∀x∈ks,bx h4 (.ref h.n) (.int x)=aB (.int (f x)):=λx hx=>by
   show(match h4.get h.n with|some (.lst ws)=>L2.cz ws x|some (.dk kvs)=>bE kvs (.inl x)|some (.dm kvs)=>bE kvs (.inl x)|_=>aC)=_
   rw[d4];show bE (eO ks f) (.inl x)=_;rw[<-sV (λz=>hk1 (z▸hx)),Gs,if_pos hx]
  have:=J' (nx:=bw .seq (.ref h3.n)) (c:=ev (run F k) Ce) (e:=ev (run F k) FG) (h:=h4) (ws:=(dD id ks).map .int) (tl:=[aB (.ref h.n)]) (p:=λw=>match w with|.int x=>decide (0<f x)|_=>false) (f:=λw=>match w with|.int x=>wP (x,f x)|w=>w) (λi=>pI g4) (λw hw=>by
   obtain⟨x,hx,rfl⟩:=jh.mp hw;unfold Ce;rw[ev,bY (aE rfl) (aE rfl) (look x (Kr.mp hx)),aD];rfl) (λw hw=>by
   obtain⟨x,hx,rfl⟩:=jh.mp hw;exact cy (aE rfl) (bY (aE rfl) (aE rfl) (look x (Kr.mp hx)))) fuel 0 aC [] (gX _) (by unfold fuel;rw[bF,(ud ks).length_eq];lia)
  rw[this,tB,DJ,qx];congr 1;rw[<-Qy D.nd (λx hx=>h9 x (D.sub x hx)) λx _ _ z=>Int.le_of_eq (D.out x z)];rw[List.filter_map,qy,qy];rfl
 have ep:prs f=prs λx=>gs x qs:=zqd λx a b=>by
  rw[hf x (by lia),tB,DS]
 rw[ep]at Gz;let h5:=h4.new (.lst ((prs λx=>gs x qs).map wP));have hpl:((prs λx=>gs x qs).map wP).length<=1000000:=by rw[bF];unfold prs;rw[(ud _).length_eq,bF];exact iY (List.length_filter_le _ _) (by decide)
 have eb:exs (run F k) jt.body [aB (.ref pp),aC,aC,aC,aC] k0=.ok (.rt (.tup ((prs λx=>gs x qs).map wP))) h5:=by refine(aT (bJ (x:=.ref h.n) (h1:=k1) rfl)).trans ?_;refine(aT (ρ':=[aB (.ref pp),aB (.ref h.n),y2,y3,y4]) (h':=h2) ?_).trans ?_;rw[exs,aE rfl,aD];exact e2;refine cQ (bS (uW (l:=h4.n) ?_ cY));rw[ev,CU (l:=h2.n) (z07 (aE rfl) hk1 g2) cY (by rw[bF];lia) (zso _),aD];show Res.bind (eG (bw .seq (.ref h3.n)) (bz (.one 0)) (ev (run F k) Ce) (ev (run F k) FG) fuel 0 [aC,aB (.ref h.n)] h4 []) _=_;rw[Gz,aD,uL hpl,if_pos rfl]
 show fin h (exs (run F k) jt.body [aB (.ref pp),aC,aC,aC,aC] k0)=_;rw[eb];exact Gp (Up.new (Up.new (Up.new ((Up.new .refl).trans u)))) Kz
theorem Dk.gx{h h':VH}{d c b:Nat}(D:Dk h d c b)(g:∀i o,h.get i=aB o->h'.get i=aB o):Dk h' d c b:=by obtain⟨ne,ns,cells,p,q,a1,a2,a3⟩:=D;exact⟨ne,ns,cells,p,q,g _ _ a1,g _ _ a2,a3⟩
theorem Dk.lt{h:VH}{d c b:Nat}(D:Dk h d c b):d<h.n/\c<h.n:=by obtain⟨ne,ns,cells,p,q,a1,a2,a3⟩:=D;exact⟨cK a1,cK a2⟩
theorem zb{h:VH}{i j:Nat}{ws:List W}{w:W}(g:h.get i=aB (.lst ws))(e:ws[j]?=aB w):bx h (.ref i) (.int (j:Int))=aB w:=by simp only[bx,g];exact pY e
theorem KD{h h':VH}{l:Nat}(hl:h.n<=l):∃h2,fin h (.ok (.rt (.ref l)) h')=.ok (.ref l) h2/\h2.n=h'.n/\∀i,h2.get i=h'.get i:=by
 have hlt:W.lt h.n (.ref l)=false:=by show Nat.blt l h.n=false;exact qj hl
 refine⟨⟨h'.n,if Nat.ble h.lo h'.lo then h.lo else h'.lo,h'.os⟩,?_,rfl,λi=>bC⟩;show leave h (.ref l) h'=_;unfold leave;rw[hlt,DL];rfl
theorem zwq{nx:Nat->VH->Option (Option W)}{tg:W->VH->En->Option En}{c e:En->VH->Res W}{KG jI pH:En}{h0 h1 h2:VH}{w0 w1 y0 y1:W}(n0:nx 0 h0=aB (aB w0))(t0:tg w0 h0 KG=aB jI)(c0:c jI h0=.ok (.bl true) h0)(e0:e jI h0=.ok y0 h1)
 (n1:nx 1 h1=aB (aB w1)) (t1:tg w1 h1 jI=aB pH) (c1:c pH h1=.ok (.bl true) h1) (e1:e pH h1=.ok y1 h2) (n2:nx 2 h2=aB aC) (f:Nat):eG nx tg c e (f+3) 0 KG h0 []=.ok [y0,y1] h2:=by
 rw[eG,n0];simp only[t0,c0,aD,e0];rw[eG,n1];simp only[t1,c1,aD,e1];rw[eG,n2];rfl
theorem CW{h:VH}{i j:Int}(h1:0<j)(h2:j<1073741824):ck .fdiv (.int i) (.int j) h=.ok (.int (i/j)) h:=by simp only[ck,eF,gg h1,gg h2,xU,b9,dO,aR]
theorem xA{cl:Call}{a b:E}{ρ:En}{h h1:VH}(ea:ev cl a ρ h=.ok (.bl true) h1):ev cl (.and a b) ρ h=ev cl b ρ h1:=by rw[ev,ea,aD]
theorem CY{cl:Call}{a b:E}{ρ:En}{h h1:VH}(ea:ev cl a ρ h=.ok (.bl false) h1):ev cl (.and a b) ρ h=.ok (.bl false) h1:=by rw[ev,ea,aD]
theorem CZ{cl:Call}{a b c:E}{ρ:En}{h h1 h2 h3:VH}{x y z:W}(ea:ev cl a ρ h=.ok x h1)(eb:ev cl b ρ h1=.ok y h2)(ec:ev cl c ρ h2=.ok z h3):ev cl (.lst (.cons a (.cons b (.cons c .nil)))) ρ h=.ok (.ref h3.n) (h3.new (.lst [x,y,z])):=by rw[ev,ev,ea,aD,ev,eb,aD,ev,ec,aD,ev];rfl
noncomputable def bX(B:Bd)(xs:List aY)(j:Nat):Int:=yZ B (xs.getD j ([],aC))
noncomputable def GA(B:Bd):List Int:=B.dr.map λd=>nZ (CA d)
theorem zwr{B:Bd}(b:B.Ok):(GA B).length<=60:=by have h1:=b.d1;have h2:=b.w2;unfold GA;rw[bF];lia
theorem Qz{B:Bd}(b:B.Ok):∀x∈GA B,0<=x/\x<=99:=λx hx=>by
 obtain⟨d,hd,rfl⟩:=jh.mp hx;obtain⟨a,y,e,h0,h9,_⟩:=F2 (b.d2 d hd);rw[e];exact⟨h0,h9⟩
theorem QA{B:Bd}(b:B.Ok){xs:List aY}(g:∀t∈xs,br B t)(j:Nat):bX B xs j∈xu B:=by
 unfold bX;rw[kH];cases z:xs[j]? with|none=>exact eX|some t=>exact(sU b (g t (l9 z))).2.1
theorem C0{B:Bd}(b:B.Ok){xs:List aY}(g:∀t∈xs,br B t){x:Int}{j:Nat}(e:bX B xs j=x)(hx:x≠-1):x∈GA B:=by
 have:=QA b g j;rw[e]at this;rcases eV.mp this with q|q
 exact absurd q hx;exact q
theorem pK{B:Bd}{xs:List aY}{j:Nat}{a:aY}(h:xs[j]?=aB a):bX B xs j=yZ B a:=by unfold bX;rw[kH,h];rfl
noncomputable def fq(m:Nat)(bk:Option Nat):Nat:=if bk=aC then m-1 else m
theorem QB{B:Bd}(b:B.Ok){xs:List aY}(g:∀t∈xs,br B t):xs.map (iz B)=(seg (bX B xs) 0 xs.length).map nW:=by refine List.ext_getElem? λj=>?_;rw[iC,iC];by_cases z:j<xs.length;have e:xs[j]?=aB xs[j]:=iA z;rw[GD _ _ _ _ z,vec,e,pK e,dO,dO,(sU b (g _ (nF z))).1];rw[qp (by lia),qp (by rw[kD];lia)];rfl
theorem zqg{B:Bd}(b:B.Ok){xs:List aY}{bk:Option Nat}(g:∀t∈xs,br B t):(if bk=aC then gG B xs else xs.map (iz B))=(seg (bX B xs) 0 (fq xs.length bk)).map nW:=by unfold fq;by_cases z:bk=aC;rw[if_pos z,if_pos z];unfold gG;rw[List.dropLast_eq_take,zj,QB b g,<-zj,Ej _ (by lia)];rw[if_neg z,if_neg z,QB b g]
noncomputable def dR(B:Bd)(xs:List aY)(bk:Option Nat)(n:Nat):W:=.tup [aG (xs.getD (cj xs.length bk n) ([],aC)),.tup ((prs (tot xs.length bk (bX B xs) n)).map wP),.int (bP xs.length bk n:Nat)]
theorem QC{f:Nat->Int}{x:Int}{n:Nat}:cs f x 0 n=cnt f x n:=yb n λk _=>by rw[vec]
theorem QD{cl:Call}{a b:E}{ρ:En}{h:VH}{c k:Nat}{ws:List W}(ea:ev cl a ρ h=.ok (.ref c) h)(eb:ev cl b ρ h=.ok (.int (k:Int)) h)(g:h.get c=aB (.lst ws))(hk:k<=ws.length):ev cl (.slc a false (.cst .aI) true b) ρ h=.ok (.ref h.n) (h.new (.lst (ws.take k))):=by rw[ev,ea,aD,ev,aD,eb,aD];simp only[dN,jD,g,zwi hk]
theorem zws{cl:Call}{a b:E}{ρ:En}{h:VH}{c k:Nat}{ws:List W}(ea:ev cl a ρ h=.ok (.ref c) h)(eb:ev cl b ρ h=.ok (.int (k:Int)) h)(g:h.get c=aB (.lst ws))(hk:k<=ws.length):ev cl (.slc a true b false (.cst .aI)) ρ h=.ok (.ref h.n) (h.new (.lst (ws.drop k))):=by rw[ev,ea,aD,eb,aD,ev,aD];simp only[dN,jD,g,zwj hk]
theorem zwt{cl:Call}{a b e:E}{ρ:En}{h:VH}{c k m:Nat}{ws:List W}(ea:ev cl a ρ h=.ok (.ref c) h)(eb:ev cl b ρ h=.ok (.int (k:Int)) h)(ee:ev cl e ρ h=.ok (.int ((k+m:Nat):Int)) h)(g:h.get c=aB (.lst ws))(hk:k+m<=ws.length):ev cl (.slc a true b true e) ρ h=.ok (.ref h.n) (h.new (.lst ((ws.drop k).take m))):=by rw[ev,ea,aD,eb,aD,ee,aD];simp only[dN,jD,g,zwk hk]
theorem C1{cl:Call}{a b:E}{ρ:En}{h:VH}{l j:Nat}{ws:List W}{w:W}(ea:ev cl a ρ h=.ok (.ref l) h)(eb:ev cl b ρ h=.ok (.int (j:Int)) h)(g:h.get l=aB (.lst ws))(e:ws[j]?=aB w):ev cl (.idx a b) ρ h=.ok w h:=bY ea eb (zb g e)
theorem KH{B:Bd}{xs:List aY}{bk:Option Nat}{n:Nat}:Pl (dR B xs bk n):=Pl.tup λw hw=>by
 simp only[eV,nG,ny]at hw;rcases hw with rfl|rfl|rfl
 exact Qu;exact Kz;exact Pl.int
structure Lw(h:VH)(B:Bd)(xs:List aY)(bk:Option Nat)(l a c:Nat):Prop where
 gl:h.get l=aB (.lst [.ref a,.ref c,aK bk])
 ga:h.get a=aB (.lst (xs.map aG))
 gc:h.get c=aB (.lst ((seg (bX B xs) 0 (fq xs.length bk)).map nW))
theorem Lw.up{h h':VH}{B:Bd}{xs:List aY}{bk:Option Nat}{l a c:Nat}(L:Lw h B xs bk l a c)(g:∀i o,h.get i=aB o->h'.get i=aB o):Lw h' B xs bk l a c:=⟨g _ _ L.gl,g _ _ L.ga,g _ _ L.gc⟩
theorem iV{h:VH}{o:VO}:∀i u,h.get i=aB u->(h.new o).get i=aB u:=λi u e=>(gE (cK e)).trans e
section
variable{F:Nat->Option Fn}(sY:F 137=aB kh)(ig:F 164=aB jt)
include ig
theorem QE{B:Bd}{xs:List aY}(b:B.Ok)(gd:∀t∈xs,br B t){g:Int->Int}{k:Nat}{h:VH}{pp:Nat}{qs:List Pt}(hq:qs.length<1000)(hin:∀q∈qs,h.get q.1=aB (.lst (q.2.1.map nW))/\q.2.1.length<1000000/\∀x∈q.2.1,∃j,bX B xs j=x)(hp:h.get pp=aB (.lst (qs.map qm)))(hg:∀x,gs x qs=g x) :
 run F (k+1) 164 [.ref pp] h=.ok (.tup ((prs g).map wP)) h:=by
 have:=zqe ig (k:=k) (zwr b) (Qz b) hq (λq h=>⟨(hin q h).1,(hin q h).2.1,λx hx hz=>by
  obtain⟨j,e⟩:=(hin q h).2.2 x hx;exact C0 b gd e hz⟩) hp
 rw[this,show(λx=>gs x qs)=g from funext hg]
theorem QF{f:Nat->Int}{x:Int}:∀{n a:Nat},x∈seg f a n->∃j,f j=x:=λ{n a} h=>by
 obtain⟨i,hi⟩:=List.mem_iff_getElem?.mp h;have hl:i<n:=by have:=(jK.mp hi).1;rw[kD]at this;exact this
 rw[GD _ _ _ _ hl]at hi;exact⟨_,jN hi⟩
theorem QG{B:Bd}{xs:List aY}(b:B.Ok)(gd:∀t∈xs,br B t){cl:Call}{k:Nat}(hcl:cl=run F (k+1)){e:E}{ρ:En}{h h1:VH}{c n:Nat}{lf:Nat->Int}{g:Int->Int}(hn:n<1000000)(hlf:∀j,∃i,bX B xs i=lf j)(ee:ev cl e ρ h=.ok (.ref c) h1)(gc:h1.get c=aB (.lst ((seg lf 0 n).map nW)))(hg:∀x,cnt lf x n=g x) :
 ev cl (.call 164 (.cons (.lst (.cons (.tup (.cons e (.cons (.cst (.int (1))) .nil))) .nil)) .nil)) ρ h=.ok (.tup ((prs g).map wP)) (h1.new (.lst [qm (c,seg lf 0 n,1)])):=by
 subst hcl;have el:=uP (cl:=run F (k+1)) (a:=.tup (.cons e (.cons (.cst (.int (1))) .nil))) (ρ:=ρ) (h:=h) (h1:=h1) (x:=qm (c,seg lf 0 n,1)) (cy ee rfl);refine sR el (QE ig b gd (qs:=[(c,seg lf 0 n,1)]) (show 1<1000 by decide) (λq hq=>?_) cY λx=>?_);cases i7.mp hq;refine⟨iV _ _ gc,by rw[kD];exact hn,λx hx=>?_⟩;obtain⟨j,hj⟩:=QF ig hx;obtain⟨i,hi⟩:=hlf j;exact⟨i,hi.trans hj⟩;show 1*kF (seg lf 0 n) x+0=_;rw[CV,QC,hg x];lia
include sY
theorem zqk{k n l a c:Nat}{h:VH}{B:Bd}{s:aY}{xs:List aY}{bk:Option Nat}(b:B.Ok)(V:Ev B s xs bk)(L:Lw h B xs bk l a c):run F (k+3) 137 [.ref l,.int (n:Int)] h=.ok (dR B xs bk n) h:=by
 rw[cA sY rfl];have l1:=V.l1;have l2:=V.l2;have hnf:∀j,∃i,bX B xs i=bX B xs j:=λj=>⟨j,rfl⟩
 let k0:VH:=⟨h.n,h.n,h.os⟩
 have L0:Lw k0 B xs bk l a c:=L.up λi o e=>e;have hat:∀j,j<xs.length->(xs.map aG)[j]?=aB (aG (xs.getD j ([],aC))):=λj hj=>by
  rw[iC,kH,iA hj];rfl
 have e0:exs (run F (k+2)) (.lH [2,3,4] (.var 0)) [aB (.ref l),aB (.int (n:Int)),aC,aC,aC,aC,aC,aC,aC] k0=.ok (.nx [aB (.ref l),aB (.int (n:Int)),aB (.ref a),aB (.ref c),aB (aK bk),aC,aC,aC,aC]) k0:=by rw[exs,aE rfl,aD];simp only[bz,aN,L0.gl,gM,iB,gQ,dO,aR]
 have hlen:∀(ρ:En)(h':VH),ρ[3]?=aB (aB (.ref c))->h'.get c=aB (.lst ((seg (bX B xs) 0 (fq xs.length bk)).map nW))->ev (run F (k+2)) (.bi .len (.cons (.var 3) .nil)) ρ h'=.ok (.int (fq xs.length bk:Nat)) h':=λρ h' ki hc=>by
  have:=ic (cl:=run F (k+2)) (a:=.var 3) (ρ:=ρ) (h:=h') (h1:=h') (x:=.ref c) (ws:=(seg (bX B xs) 0 (fq xs.length bk)).map nW) (aE ki) (by simp only[aN,hc]);rw[bF,kD]at this;exact this
 have key:∃h',exs (run F (k+2)) kh.body [aB (.ref l),aB (.int (n:Int)),aC,aC,aC,aC,aC,aC,aC] k0=.ok (.rt (dR B xs bk n)) h'/\Up h.n k0 h':=by
  have few:∀(ρ:En)(v:Nat)(N:Nat),ρ[2]?=aB (aB (.ref a))->ρ[3]?=aB (aB (.ref c))->ρ[v]?=aB (aB (.int (N:Int)))->N<=fq xs.length bk->N<xs.length->cj xs.length bk n=N->bP xs.length bk n=N->(∀x,cnt (bX B xs) x N=tot xs.length bk (bX B xs) n x)->
   ∃h',exs (run F (k+2)) (.seq (.ret (.tup (.cons (.idx (.var 2) (.var v)) (.cons (.call 164 (.cons (.lst (.cons (.tup (.cons (.slc (.var 3) false (.cst .aI) true (.var v)) (.cons (.cst (.int (1))) .nil))) .nil)) .nil)) (.cons (.var v) .nil))))) .skip) ρ k0=.ok (.rt (dR B xs bk n)) h'/\Up h.n k0 h':=λρ v N h2 h3 hv hN hx hp hb ht=>by
   have es:=QD (cl:=run F (k+2)) (a:=.var 3) (b:=.var v) (ρ:=ρ) (h:=k0) (aE h3) (aE hv) L0.gc (by rw[bF,kD];exact hN);rw[<-zj,Ej _ hN]at es;have ec:=QG ig b V.gd (k:=k+1) rfl (g:=tot xs.length bk (bX B xs) n) (by lia) hnf es cY ht;refine⟨(k0.new (.lst ((seg (bX B xs) 0 N).map nW))).new (.lst [qm (k0.n,seg (bX B xs) 0 N,1)]),?_,Up.new (Up.new .refl)⟩;have:=lW (C1 (cl:=run F (k+2)) (a:=.var 2) (b:=.var v) (ρ:=ρ) (aE h2) (aE hv) L0.ga (hat N hx)) ec (aE hv);rw[cQ (bS this)];unfold dR;rw[hp,hb]
  cases C2:bk with
  |none=>
   subst C2;have hl:fq xs.length aC=xs.length-1:=rfl;obtain⟨h',e,u⟩:=few [aB (.ref l),aB (.int (n:Int)),aB (.ref a),aB (.ref c),aB (aK aC),aB (.int (min n (xs.length-1):Nat)),aC,aC,aC] 5 (min n (xs.length-1)) rfl rfl rfl (by rw[hl];lia) (by lia) rfl rfl λx=>rfl;refine⟨h',?_,u⟩;refine(aT e0).trans (cQ ((fM (h1:=k0) rfl).trans ?_));exact(aT (bJ (CS (aE rfl) (hlen _ k0 rfl L0.gc)))).trans e
  |some i=>
   subst C2;have hi:=V.bl i rfl;have hl:fq xs.length (aB i)=xs.length:=rfl;have el:ev (run F (k+2)) (.bi .len (.cons (.var 2) .nil)) [aB (.ref l),aB (.int (n:Int)),aB (.ref a),aB (.ref c),aB (aK (aB i)),aC,aC,aC,aC] k0=.ok (.int (xs.length:Int)) k0:=by have:=ic (cl:=run F (k+2)) (a:=.var 2) (ρ:=[aB (.ref l),aB (.int (n:Int)),aB (.ref a),aB (.ref c),aB (aK (aB i)),aC,aC,aC,aC]) (h:=k0) (h1:=k0) (x:=.ref a) (ws:=xs.map aG) (aE rfl) (by simp only[aN,L0.ga]);rw[bF]at this;exact this
   have ec:ev (run F (k+2)) (.cmp .lt (.var 1) (.bi .len (.cons (.var 2) .nil))) [aB (.ref l),aB (.int (n:Int)),aB (.ref a),aB (.ref c),aB (aK (aB i)),aC,aC,aC,aC] k0=.ok (.bl (decide ((n:Int)< (xs.length:Int)))) k0:=by rw[ev,aE rfl,aD,el,aD];rfl
   by_cases z:n<xs.length;rw[gg (by lia)]at ec;obtain⟨h',e,u⟩:=few [aB (.ref l),aB (.int (n:Int)),aB (.ref a),aB (.ref c),aB (aK (aB i)),aC,aC,aC,aC] 1 n rfl rfl rfl (by rw[hl];lia) z (by unfold cj;dsimp only;rw[if_pos z]) rfl λx=>by unfold tot;dsimp only;rw[if_pos z]
   refine⟨h',?_,u⟩;refine(aT e0).trans ((aT ((cD (h1:=k0) rfl).trans rfl)).trans (cQ ((fM ec).trans e)));rw[fE (by lia)]at ec;have hd:((n:Int)- (i:Int))=((n-i:Nat):Int)/\((xs.length:Int)- (i:Int))=((xs.length-i:Nat):Int):=by lia
   have R0:0<xs.length-i:=by lia
   have hr:=tF (n-i) R0;have hq1:(((n-i:Nat):Int)/ ((xs.length-i:Nat):Int))=(((n-i)/ (xs.length-i):Nat):Int):=rfl;have hq2:(((n-i:Nat):Int) % ((xs.length-i:Nat):Int))=(((n-i) % (xs.length-i):Nat):Int):=rfl;have hT:∀x,tot xs.length (aB i) (bX B xs) n x=cnt (bX B xs) x i+ (((n-i)/ (xs.length-i):Nat):Int)*cs (bX B xs) x i (xs.length-i)+cs (bX B xs) x i ((n-i) % (xs.length-i)):=λx=>by unfold tot;dsimp only;rw[if_neg z]
   have hP:cj xs.length (aB i) n=i+ (n-i) % (xs.length-i):=by unfold cj;dsimp only;rw[if_neg z]
   generalize (n-i)/ (xs.length-i)=q at *;generalize (n-i) % (xs.length-i)=r at *;have Ci:=L0.gc;rw[hl]at Ci;let gz:En:=[aB (.ref l),aB (.int (n:Int)),aB (.ref a),aB (.ref c),aB (aK (aB i)),aC,aB (.int (q:Int)),aB (.int (r:Int)),aC]
   let j1:=k0.new (.lst ((seg (bX B xs) 0 i).map nW));let j2:=j1.new (.lst ((seg (bX B xs) i (xs.length-i)).map nW));let j3:=j2.new (.lst ((seg (bX B xs) i r).map nW));let qs:List Pt:=[(k0.n,seg (bX B xs) 0 i,1),(j1.n,seg (bX B xs) i (xs.length-i),(q:Int)),(j2.n,seg (bX B xs) i r,1)]
   let j4:=j3.new (.lst (qs.map qm));have QH:j1.get c=aB (.lst ((seg (bX B xs) 0 xs.length).map nW)):=iV _ _ Ci;have gc2:j2.get c=aB (.lst ((seg (bX B xs) 0 xs.length).map nW)):=iV _ _ QH;have s1:=QD (cl:=run F (k+2)) (a:=.var 3) (b:=.var 4) (ρ:=gz) (h:=k0) (k:=i) (aE rfl) (aE rfl) Ci (by rw[bF,kD];lia);rw[<-zj,Ej _ (by lia)]at s1;have s2:=zws (cl:=run F (k+2)) (a:=.var 3) (b:=.var 4) (ρ:=gz) (h:=j1) (k:=i) (aE rfl) (aE rfl) QH (by rw[bF,kD];lia);rw[<-List.map_drop,LI _ (by lia),vec]at s2;have s3:=zwt (cl:=run F (k+2)) (a:=.var 3) (b:=.var 4) (e:=.op .add (.var 4) (.var 7)) (ρ:=gz) (h:=j2) (k:=i) (m:=r) (aE rfl) (aE rfl) (eN (aE rfl) (aE rfl) pG) gc2 (by rw[bF,kD];lia);rw[<-List.map_drop,LI _ (by lia),vec,<-zj,Ej _ (by lia)]at s3;have e6:ev (run F (k+2)) (.op .fdiv (.op .sub (.var 1) (.var 4)) (.op .sub (.bi .len (.cons (.var 3) .nil)) (.var 4))) [aB (.ref l),aB (.int (n:Int)),aB (.ref a),aB (.ref c),aB (aK (aB i)),aC,aC,aC,aC] k0=.ok (.int (q:Int)) k0:=by refine eN (h1:=k0) (h2:=k0) (x:=.int ((n-i:Nat):Int)) (y:=.int ((xs.length-i:Nat):Int)) (eN (aE rfl) (aE rfl) ?_) (eN (hlen _ k0 rfl L0.gc) (aE rfl) ?_) ?_;exact iT.trans (by rw[hd.1]);rw[hl];exact iT.trans (by rw[hd.2]);rw[CW (by lia) (by lia),hq1]
   have e7:ev (run F (k+2)) (.op .mod (.op .sub (.var 1) (.var 4)) (.op .sub (.bi .len (.cons (.var 3) .nil)) (.var 4))) [aB (.ref l),aB (.int (n:Int)),aB (.ref a),aB (.ref c),aB (aK (aB i)),aC,aB (.int (q:Int)),aC,aC] k0=.ok (.int (r:Int)) k0:=by refine eN (h1:=k0) (h2:=k0) (x:=.int ((n-i:Nat):Int)) (y:=.int ((xs.length-i:Nat):Int)) (eN (aE rfl) (aE rfl) ?_) (eN (hlen _ k0 rfl L0.gc) (aE rfl) ?_) ?_;exact iT.trans (by rw[hd.1]);rw[hl];exact iT.trans (by rw[hd.2]);rw[Kh (by lia),hq2]
   have e8:ev (run F (k+2)) (.lst (.cons (.tup (.cons (.slc (.var 3) false (.cst .aI) true (.var 4)) (.cons (.cst (.int (1))) .nil))) (.cons (.tup (.cons (.slc (.var 3) true (.var 4) false (.cst .aI)) (.cons (.var 6) .nil))) (.cons (.tup (.cons (.slc (.var 3) true (.var 4) true (.op .add (.var 4) (.var 7))) (.cons (.cst (.int (1))) .nil))) .nil)))) gz k0=.ok (.ref j3.n) j4:=CZ (cy s1 rfl) (cy s2 (aE rfl)) (cy s3 rfl);have g3:∀p∈qs,j4.get p.1=aB (.lst (p.2.1.map nW)):=λp hp=>by
    simp only[qs,eV,nG,ny]at hp;rcases hp with rfl|rfl|rfl
    exact iV _ _ (iV _ _ (iV _ _ cY));exact iV _ _ (iV _ _ cY);exact iV _ _ cY
   have ep:=QE ig b V.gd (g:=tot xs.length (aB i) (bX B xs) n) (k:=k+1) (h:=j4) (pp:=j3.n) (qs:=qs) (show 3<1000 by decide) (λp hp=>⟨g3 p hp,by
    simp only[qs,eV,nG,ny]at hp;rcases hp with rfl|rfl|rfl<;> (show(seg _ _ _).length<1000000)<;>rw[kD]<;>lia,λx hx=>by
    simp only[qs,eV,nG,ny]at hp;rcases hp with rfl|rfl|rfl<;>exact QF ig hx⟩) cY (λx=>by
    rw[hT x];show 1*kF (seg (bX B xs) 0 i) x+ ((q:Int)*kF (seg (bX B xs) i (xs.length-i)) x+ (1*kF (seg (bX B xs) i r) x+0))=_;rw[CV,CV,CV,QC];lia)
   have ga4:j4.get a=aB (.lst (xs.map aG)):=iV _ _ (iV _ _ (iV _ _ (iV _ _ L0.ga)));refine⟨j4,?_,Up.new (Up.new (Up.new (Up.new .refl)))⟩;refine(aT e0).trans ((aT ((cD (h1:=k0) rfl).trans rfl)).trans ((aT ((cD ec).trans rfl)).trans ?_));refine(aT (bJ e6)).trans ?_;refine(aT (bJ e7)).trans ?_;refine(aT (bJ e8)).trans ?_;have hi2:ev (run F (k+2)) (.op .add (.var 4) (.var 7)) [aB (.ref l),aB (.int (n:Int)),aB (.ref a),aB (.ref c),aB (aK (aB i)),aC,aB (.int (q:Int)),aB (.int (r:Int)),aB (.ref j3.n)] j4=.ok (.int ((i+r:Nat):Int)) j4:=eN (aE rfl) (aE rfl) pG;have:=lW (C1 (cl:=run F (k+2)) (a:=.var 2) (b:=.op .add (.var 4) (.var 7)) (ρ:=[aB (.ref l),aB (.int (n:Int)),aB (.ref a),aB (.ref c),aB (aK (aB i)),aC,aB (.int (q:Int)),aB (.int (r:Int)),aB (.ref j3.n)]) (aE rfl) hi2 ga4 (hat (i+r) (by lia))) (sR (a:=.var 8) (aE rfl) ep) (c:=.var 1) (aE rfl);refine(cQ (bS this)).trans ?_;unfold dR;rw[hP];rfl
 obtain⟨h',e,u⟩:=key;show fin h (exs (run F (k+2)) kh.body [aB (.ref l),aB (.int (n:Int)),aC,aC,aC,aC,aC,aC,aC] k0)=_;rw[e];exact Gp u KH
end
theorem z09{cl:Call}{ρ:En}{h h':VH}{n:Nat}{a b c d e:E}{x y z u v w:W}(ea:ev cl a ρ h=.ok x h)(eb:ev cl b ρ h=.ok y h)(ec:ev cl c ρ h=.ok z h)(ed:ev cl d ρ h=.ok u h)(ee:ev cl e ρ h=.ok v h)(q:cl n [x,y,z,u,v] h=.ok w h'):ev cl (.call n (.cons a (.cons b (.cons c (.cons d (.cons e .nil)))))) ρ h=.ok w h':=by
 have t:ev cl (.cons a (.cons b (.cons c (.cons d (.cons e .nil))))) ρ h=.ok (.tup [x,y,z,u,v]) h:=by rw[ev,ea,aD,ev,eb,aD,ev,ec,aD,ev,ed,aD,ev,ee,aD,ev];rfl
 rw[ev,t,aD];exact q
structure C19(F:Nat->Option Fn):Prop where
 e:jw F
 h:pF F
 x:pC F
 m:CoreM F
 q:uM F
 b:ju F
 JR:F 20=aB oV
 f58:F 58=aB rW
 xx:F 61=aB oX
 f93:F 93=aB wH
 f99:F 99=aB wI
 KI:F 132=aB jr
 sY:F 137=aB kh
 ig:F 164=aB jt
 sW:F 206=aB kg
 KJ:F 208=aB lR
 KL:F 257=aB lS
 KN:F 700=aB FI
theorem zss{c:FE}{b:FS}{fu:Nat}{ρ:En}{h h1:VH}(e:c ρ h=.ok (.bl false) h1):bR c b (fu+1) ρ h=.ok (.nx ρ) h1:=by rw[bR,e,aD]
theorem zst{c:FE}{b:FS}{fu:Nat}{ρ pH:En}{h h1 h2:VH}(e:c ρ h=.ok (.bl true) h1)(eb:b ρ h1=.ok (.nx pH) h2):bR c b (fu+1) ρ h=bR c b fu pH h2:=by rw[bR,e,aD];dsimp only;rw[eb,aD]
section
variable{F:Nat->Option Fn}(C:C19 F){B:Bd}{s:aY}{xs:List aY}{bk:Option Nat}(b:B.Ok)(V:Ev B s xs bk)
include C b V
theorem QI{k n d:Nat}:∀(r j fu:Nat) (a:aY) (x4:Option W) (h:VH),j+r=bP xs.length bk n->r<fu->j+r<1000000->xs[cj xs.length bk j]?=aB a->h.get d=aB (.lst ((seg (λi=>bX B xs (cj xs.length bk i)) 0 j).map nW))->
 ∃a' y4 h',bR (ev (run F (k+2)) Cf) (exs (run F (k+2)) FH) fu [aB B.w,aB (aG a),aB (.int (n:Int)),aB (.ref d),x4] h=.ok (.nx [aB B.w,aB (aG a'),aB (.int (n:Int)),aB (.ref d),y4]) h'/\xs[cj xs.length bk (bP xs.length bk n)]?=aB a'/\h'.get d=aB (.lst ((seg (λi=>bX B xs (cj xs.length bk i)) 0 (bP xs.length bk n)).map nW))/\Up d h h'
 |r,j,0,a,x4,h,hj,hfu,hb,ha,gd=>by lia
 |r,j,fu+1,a,x4,h,hj,hfu,hb,ha,gd=>by
  have el:ev (run F (k+2)) (.bi .len (.cons (.var 3) .nil)) [aB B.w,aB (aG a),aB (.int (n:Int)),aB (.ref d),x4] h=.ok (.int (j:Int)) h:=by have:=ic (cl:=run F (k+2)) (a:=.var 3) (ρ:=[aB B.w,aB (aG a),aB (.int (n:Int)),aB (.ref d),x4]) (h:=h) (h1:=h) (x:=.ref d) (ws:=(seg (λi=>bX B xs (cj xs.length bk i)) 0 j).map nW) (aE rfl) (by simp only[aN,gd]);rw[bF,kD]at this;exact this
  have e1:ev (run F (k+2)) (.cmp .lt (.bi .len (.cons (.var 3) .nil)) (.var 2)) [aB B.w,aB (aG a),aB (.int (n:Int)),aB (.ref d),x4] h=.ok (.bl (decide ((j:Int)< (n:Int)))) h:=by rw[ev,el,aD,aE rfl,aD];rfl
  have e2:ev (run F (k+2)) (.cmp .gK (.idx (.var 1) (.cst (.int (1)))) (.cst .aI)) [aB B.w,aB (aG a),aB (.int (n:Int)),aB (.ref d),x4] h=.ok (.bl (!bB (bA a.2))) h:=by rw[ev,bY (z:=bA a.2) (aE rfl) rfl rfl,aD];rfl
  cases r with
  |zero=>
   have hj:j=bP xs.length bk n:=by lia
   refine⟨a,x4,h,zss ?_,by rw[<-hj];exact ha,by rw[<-hj];exact gd,.refl⟩;unfold Cf;by_cases z:j<n;rw[gg (by lia)]at e1;refine(xA e1).trans ?_;cases bk with
   |some i=>exact absurd hj (by show ¬j=n;lia)
   |none=>
    have hj:j=min n (xs.length-1):=hj;have hp:cj xs.length aC j=xs.length-1:=by unfold cj;dsimp only;lia
    rw[hp]at ha;rw[V.en a rfl ha]at e2;exact e2
   rw[fE (by lia)]at e1;exact CY e1
  |succ r=>
   have hjn:j<n/\(bk=aC->j<xs.length-1):=by
    cases bk with
    |some i=>
     have hj:j+ (r+1)=n:=hj;exact⟨by lia,λz=>by cases z⟩
    |none=>
     have hj:j+ (r+1)=min n (xs.length-1):=hj;exact⟨by lia,λ_=>by lia⟩
   obtain⟨t,ht,hpt⟩:=V.step ha hjn.2;obtain⟨f,hf⟩:=Qj ht;have ga:=V.gd a (l9 ha);have hnm:=(sU b ga).1;rw[<-pK ha]at hnm;obtain⟨ls,fo⟩:=a;have hf:fo=aB f:=hf;subst hf;obtain⟨hl,bi,yC⟩:=ga;have ht:aB ((B.aX ls f).ls,dj B ls f)=aB t:=ht;have e3:=P4 C.x (k:=k) (h:=h) b (yC f rfl) hl bi;rw[jN ht]at e3;have hnm:nameP B ls f=nW (bX B xs (cj xs.length bk j)):=hnm;rw[hnm]at e3;have KA:=uK (o:=.lst ((seg (λi=>bX B xs (cj xs.length bk i)) 0 (j+1)).map nW)) gd;have eu:exs (run F (k+2)) (.lH [4,1] (.call 117 (.cons (.var 0) (.cons (.var 1) .nil)))) [aB B.w,aB (aG (ls,aB f)),aB (.int (n:Int)),aB (.ref d),x4] h=.ok (.nx [aB B.w,aB (aG t),aB (.int (n:Int)),aB (.ref d),aB (nW (bX B xs (cj xs.length bk j)))]) h:=by rw[exs,fL (aE rfl) (aE rfl) e3,aD];rfl
   have ea:=wU (cl:=run F (k+2)) (i:=3) (l:=d) (x:=.var 4) (ρ:=[aB B.w,aB (aG t),aB (.int (n:Int)),aB (.ref d),aB (nW (bX B xs (cj xs.length bk j)))]) (h:=h) (h1:=h) (w:=nW (bX B xs (cj xs.length bk j))) rfl gd (aE rfl) gd (by rw[bF,kD];lia);rw[show(seg (λi=>bX B xs (cj xs.length bk i)) 0 j).map nW++[nW (bX B xs (cj xs.length bk j))]=(seg (λi=>bX B xs (cj xs.length bk i)) 0 (j+1)).map nW by rw[LH,ni,vec];rfl]at ea;obtain⟨a',y4,h',e,g1,g2,u⟩:=QI (k:=k) (n:=n) (d:=d) r (j+1) fu t (aB (nW (bX B xs (cj xs.length bk j)))) _ (by lia) (by lia) (by lia) hpt KA;refine⟨a',y4,h',?_,g1,g2,(Up.set .refl gd (bq _)).trans u⟩;refine(zst (h1:=h) ?_ ?_).trans e;unfold Cf;rw[gg (by lia)]at e1;exact(xA e1).trans e2;unfold FH;exact(aT eu).trans ((aT (iR ea)).trans rfl)
theorem zi9{k n:Nat}{h:VH}(hn:n<=60):run F (k+3) 700 [B.w,aG s,.int (n:Int)] h=.ok (dR B xs bk n) h:=by
 rw[cA C.KN rfl];let k0:VH:=⟨h.n,h.n,h.os⟩
 let k1:=k0.new (.lst []);have hbl:bP xs.length bk n<=60:=by unfold bP;split<;>lia
 obtain⟨a',y4,h2,e,g1,g2,u⟩:=QI C b V (k:=k) (n:=n) (d:=h.n) (bP xs.length bk n) 0 fuel s aC k1 (by lia) (by unfold fuel;lia) (by lia) V.zero (cY (h:=k0));have hpp:cj xs.length bk (bP xs.length bk n)=cj xs.length bk n:=by
  cases bk with|none=>unfold cj bP;dsimp only;lia|some i=>rfl
 rw[hpp]at g1;have ec:=QG C.ig b V.gd (cl:=run F (k+2)) (k:=k+1) rfl (e:=.var 3) (ρ:=[aB B.w,aB (aG a'),aB (.int (n:Int)),aB (.ref h.n),y4]) (h:=h2) (h1:=h2) (c:=h.n) (n:=bP xs.length bk n) (lf:=λi=>bX B xs (cj xs.length bk i)) (g:=tot xs.length bk (bX B xs) n) (by lia) (λj=>⟨_,rfl⟩) (aE rfl) g2 λx=>Rt V.bl;let h3:=h2.new (.lst [qm (h.n,seg (λi=>bX B xs (cj xs.length bk i)) 0 (bP xs.length bk n),1)]);have g3:h3.get h.n=aB (.lst ((seg (λi=>bX B xs (cj xs.length bk i)) 0 (bP xs.length bk n)).map nW)):=iV _ _ g2;have el:ev (run F (k+2)) (.bi .len (.cons (.var 3) .nil)) [aB B.w,aB (aG a'),aB (.int (n:Int)),aB (.ref h.n),y4] h3=.ok (.int (bP xs.length bk n:Nat)) h3:=by have:=ic (cl:=run F (k+2)) (a:=.var 3) (ρ:=[aB B.w,aB (aG a'),aB (.int (n:Int)),aB (.ref h.n),y4]) (h:=h3) (h1:=h3) (x:=.ref h.n) (ws:=(seg (λi=>bX B xs (cj xs.length bk i)) 0 (bP xs.length bk n)).map nW) (aE rfl) (by simp only[aN,g3]);rw[bF,kD]at this;exact this
 have eb:exs (run F (k+2)) FI.body [aB B.w,aB (aG s),aB (.int (n:Int)),aC,aC] k0=.ok (.rt (dR B xs bk n)) h3:=by refine(aT (bJ (x:=.ref h.n) (h1:=k1) rfl)).trans ?_;refine(aT (show exs (run F (k+2)) (.n9 Cf FH) _ _=_ from e)).trans ?_;refine(cQ (bS (lW (aE rfl) ec el))).trans ?_;unfold dR;rw[kH,g1];rfl
 show fin h (exs (run F (k+2)) FI.body [aB B.w,aB (aG s),aB (.int (n:Int)),aC,aC] k0)=_;rw[eb];exact Gp (Up.new ((Up.new .refl).trans u)) KH
theorem QJ{k n:Nat}{h:VH}:run F (k+5) 206 [B.w,eg (xs,bk),.int (n:Int)] h=.ok (dR B xs bk n) h:=by
 have l1:=V.l1;have l2:=V.l2;have hp:=Rq (m:=xs.length) (n:=n) (bk:=bk) l1;obtain⟨sl,hsl⟩:=V.at n;obtain⟨ks,f,R,e⟩:=zsq C.xx C.sW (k:=k) (n:=n) (B:=B.w) (xs:=xs) (bk:=bk) (ns:=xu B) (nf:=bX B xs) (h:=h) (sl:=sl) l1 (by lia) V.bl (by have:=zwm b;lia) (λj a t hj ht h0=>by
  refine⟨QA b V.gd j,λh=>?_⟩;have hjl:j<xs.length:=(jK.mp hj).1;have hfe:∃t,aV B a=aB t:=by
   have hpj:cj xs.length bk j=j:=by unfold cj;split;lia;rw[if_pos hjl]
   obtain⟨t,h1,_⟩:=V.step (n:=j) (a:=a) (by rw[hpj];exact hj) (λz=>by
    subst z;by_cases q:j<xs.length-1;exact q;have hj2:j=xs.length-1:=by lia
    unfold ji at ht;dsimp only at ht;rw[kI (by rw[ze];lia),zd]at ht;split at ht;cases ht;exact absurd h0 (by decide);cases ht)
   exact⟨t,h1⟩
  obtain⟨u,hu⟩:=hfe;obtain⟨f,hf⟩:=Qj hu;have ga:=V.gd a (l9 hj);have hnm:=(sU b ga).1;rw[<-pK hj]at hnm;obtain⟨ls,fo⟩:=a;have hf:fo=aB f:=hf;subst hf;obtain⟨hl,bi,yC⟩:=ga;have ec:=PU C.e (k:=k) (h:=h) b (yC f rfl) hl bi;rw[(CH b (yC f rfl) hl bi).1,show nameP B ls f=nW (bX B xs j)from hnm]at ec;exact⟨_,_,ec⟩) (by rw[hp];exact hsl)
 rw[e,Ro V.bl];have hf:f=tot xs.length bk (bX B xs) n:=funext λx=>(R.eq x).trans (Rn V.bl);have hP:=zsr (g:=f) (ks:=ks.filter λx=>decide (x≠-1)) (zu _ R.dn.nd) λx=>by
  rw[vf,gH];constructor;intro⟨a1,a2⟩;rcases eV.mp (R.dn.sub x a1)with q|q
  exact absurd q a2;exact⟨Qz b x q,(R.pos x).mp a1⟩;intro⟨a1,a2⟩;exact⟨(R.pos x).mpr a2,by lia⟩
 rw[hP,hf];unfold dR;rw[kH,hsl];rfl
omit b V in
theorem QK{k n:Nat}{h:VH}(hn:n<=10 ^ 50):run F (k+3) 58 [.int (n:Int)] h=.ok (.bl true) h:=by
 rw[cA C.f58 rfl];have e:=uI C.b.toCoreA (k:=k) (h:=⟨h.n,h.n,h.os⟩) (w:=.int (n:Int)) (lo:=0) (hi:=100000000000000000000000000000000000000000000000000) (by unfold Kn;simp);have hw:within (.int (n:Int)) 0 100000000000000000000000000000000000000000000000000=true:=by
  unfold within;rw[bM,gH,gH];have:(10:Nat) ^ 50=100000000000000000000000000000000000000000000000000:=by decide
  rw[this]at hn;exact⟨by lia,by lia⟩
 rw[hw]at e;have eb:exs (run F (k+2)) rW.body [aB (.int (n:Int))] ⟨h.n,h.n,h.os⟩=.ok (.rt (.bl true)) ⟨h.n,h.n,h.os⟩:=cQ (bS (pA (aE rfl) rfl rfl e));show fin h (exs (run F (k+2)) rW.body [aB (.int (n:Int))] ⟨h.n,h.n,h.os⟩)=_;rw[eb];exact cU (bq _) (by simp)
theorem zwu{k n:Nat}{h:VH}(g:br B s)(hE:aH B 1281 [] (aB s)=(xs,bk))(hn:n<=10 ^ 50):run F (k+12) 208 [B.w,aG s,.int (n:Int)] h=.ok (dR B xs bk n) h:=by
 rw[cA C.KJ rfl];let k0:VH:=⟨h.n,h.n,h.os⟩
 have e0:=J2 C.e C.b (k:=k+2) (h:=k0) b g;have e1:=QK C (k:=k+8) (h:=k0) hn;have e2:=zsk C.e C.b (k:=k+1) (h:=k0) b g;rw[hE]at e2;have e3:=QJ C b V (k:=k+6) (n:=n) (h:=k0);have ec:ev (run F (k+11)) (.not (.jb (.call 58 (.cons (.var 2) .nil)))) [aB B.w,aB (aG s),aB (.int (n:Int))] k0=.ok (.bl false) k0:=by rw[ev,kj (sR (aE rfl) e1)];rfl
 have eb:exs (run F (k+11)) lR.body [aB B.w,aB (aG s),aB (.int (n:Int))] k0=.ok (.rt (dR B xs bk n)) k0:=by refine(aT (iR (fL (aE rfl) (aE rfl) e0))).trans ?_;refine(aT ((cD ec).trans rfl)).trans ?_;exact cQ (bS (pA (aE rfl) (fL (aE rfl) (aE rfl) e2) (aE rfl) e3))
 show fin h (exs (run F (k+11)) lR.body [aB B.w,aB (aG s),aB (.int (n:Int))] k0)=_;rw[eb];exact cU (bq _) (KH _)
omit C in
theorem QL{n:Nat}:bO 4 (dR B xs bk n)=true:=by
 have h1:bO 3 (aG (xs.getD (cj xs.length bk n) ([],aC)))=true:=by obtain⟨a,ha⟩:=V.at n;have ga:=(V.gd a (l9 ha)).1;have:=b.g2;rw[kH,ha];exact Qc a (by lia) 1
 have h2:bO 3 (.tup ((prs (tot xs.length bk (bX B xs) n)).map wP))=true:=by unfold bO;rw[bM,lq];refine⟨qA.mpr ?_,λw hw=>?_⟩;rw[bF];unfold prs;rw[(ud _).length_eq,bF];exact iY (List.length_filter_le _ _) (by decide);obtain⟨p,_,rfl⟩:=jh.mp hw;rfl
 show(Nat.ble 3 5000 && [aG (xs.getD (cj xs.length bk n) ([],aC)),.tup ((prs (tot xs.length bk (bX B xs) n)).map wP),.int (bP xs.length bk n:Nat)].all (bO 3))=true;rw[mh,mh,mh,h1,h2];rfl
theorem zhk{k n:Nat}{h:VH}(g:br B s)(hE:aH B 1281 [] (aB s)=(xs,bk))(hn:n<=10 ^ 50):run F (k+12) 257 [B.w,aG s,.int (n:Int),eg (xs,bk),dR B xs bk n] h=.ok (.bl true) h:=by
 rw[cA C.KL rfl];let k0:VH:=⟨h.n,h.n,h.os⟩
 have e0:=zmx C.h C.b.toCoreA C.e C.b (k:=k+1) (h:=k0) b g;rw[hE]at e0;have e1:=QK C (k:=k+8) (h:=k0) hn;have e3:=QJ C b V (k:=k+6) (n:=n) (h:=k0);have e4:=Ke C.h C.b.toCoreA 4 (k:=k+5) (h:=k0) (QL b V (n:=n));have ec:ev (run F (k+11)) (.or (.not (.jb (.call 204 (.cons (.var 0) (.cons (.var 1) (.cons (.var 3) .nil)))))) (.not (.jb (.call 58 (.cons (.var 2) .nil))))) [aB B.w,aB (aG s),aB (.int (n:Int)),aB (eg (xs,bk)),aB (dR B xs bk n)] k0=.ok (.bl false) k0:=by rw[Gn (h1:=k0) (by rw[ev,kj (pA (aE rfl) (aE rfl) (aE rfl) e0)];rfl)];rw[ev,kj (sR (aE rfl) e1)];rfl
 have eb:exs (run F (k+11)) lS.body [aB B.w,aB (aG s),aB (.int (n:Int)),aB (eg (xs,bk)),aB (dR B xs bk n)] k0=.ok (.rt (.bl true)) k0:=by refine(aT ((cD ec).trans rfl)).trans ?_;exact cQ (bS (fL (aE rfl) (pA (aE rfl) (aE rfl) (aE rfl) e3) e4))
 show fin h (exs (run F (k+11)) lS.body [aB B.w,aB (aG s),aB (.int (n:Int)),aB (eg (xs,bk)),aB (dR B xs bk n)] k0)=_;rw[eb];exact cU (bq _) (by simp)
end
theorem QM{n:Nat}(ih:∀w:W,bO n w=true->∃d,(∀(h:VH) (m:Nat),toD h (n+m+1) w=aB d)/\PyData.eqv d d=true/\∀m,g9 (n+m+1) w):∀ws:List W,(∀w∈ws,bO n w=true)->∃ds,(∀(h:VH) (m:Nat),aW (toD h (n+m+1)) ws=aB ds)/\PyData.eqvAll ds ds=true/\∀m,ws.all (g9 (n+m+1))=true
 |[],_=>⟨[],λ_ _=>rfl,rfl,λ_=>rfl⟩
 |w::ws,h=>by
  obtain⟨d,d1,d2,d3⟩:=ih w (h w eX);obtain⟨ds,e1,e2,e3⟩:=QM ih ws λw hw=>h w (eU _ hw);refine⟨d::ds,λh m=>by simp only[aW,d1 h m,e1 h m],by simp only[PyData.eqvAll,d2,e2,xU],λm=>by rw[mh,d3 m,e3 m];rfl⟩
theorem zql:∀(n:Nat) (w:W),bO n w=true->∃d,(∀(h:VH) (m:Nat),toD h (n+m+1) w=aB d)/\PyData.eqv d d=true/\∀m,g9 (n+m+1) w=true:=by
 have hint:∀(n:Nat)(i:Int),∃d,(∀(h:VH)(m:Nat),toD h (n+m+1) (.int i)=aB d)/\PyData.eqv d d=true/\∀m,g9 (n+m+1) (.int i)=true:=λn i=>⟨.int i,λ_ _=>rfl,by simp[PyData.eqv],λ_=>rfl⟩
 have ko:∀(n:Nat),∃d,(∀(h:VH)(m:Nat),toD h (n+m+1) .aI=aB d)/\PyData.eqv d d=true/\∀m,g9 (n+m+1) .aI=true:=λn=>⟨.none,λ_ _=>rfl,by simp[PyData.eqv],λ_=>rfl⟩
 intro n;induction n with
 |zero=>
  intro w hw;cases w<;>simp only[bO]at hw<;>first|exact hint 0 _|exact ko 0|cases hw
 |succ n ih=>
  intro w hw;cases w<;>simp only[bO]at hw<;>first|exact hint (n+1) _|exact ko (n+1)|(cases hw;done)|skip
  rename_i ws;rw[bM,lq]at hw;obtain⟨ds,e1,e2,e3⟩:=QM ih ws hw.2;refine⟨.tuple ds,λh m=>?_,by simp only[PyData.eqv,e2],λm=>?_⟩;show(aW (toD h (n+1+m)) ws).map PyData.tuple=_;rw[show n+1+m=n+m+1 by lia,e1 h m];rfl;show ws.all (g9 (n+1+m))=true;rw[show n+1+m=n+m+1 by lia];exact e3 m
theorem zsu{h:VH}{w:W}(hw:bO 4 w):cR h w w=aB true:=by obtain⟨d,d1,d2,d3⟩:=zql 4 w hw;rw[z04 (d3 19) (d3 19) (d1 h 19) (d1 h 19),d2]
structure GC(F:Nat->Option Fn):Prop extends C19 F where
 KP:F 701=aB FJ
 KQ:F 702=aB Jv
 KR:F 703=aB FN
noncomputable def nI(n:Nat):W:=.int (n:Int)
theorem fy{cl:Call}{a r:E}{ρ:En}{h h1 h2:VH}{x:W}{ys:List W}(ea:ev cl a ρ h=.ok x h1)(er:ev cl r ρ h1=.ok (.tup ys) h2):ev cl (.cons a r) ρ h=.ok (.tup (x::ys)) h2:=by rw[ev,ea,aD,er,aD]
theorem xB{cl:Call}{a:E}{ρ:En}{h h1:VH}{ys:List W}(ea:ev cl a ρ h=.ok (.tup ys) h1)(hl:ys.length<=1000):ev cl (.lst a) ρ h=.ok (.ref h1.n) (h1.new (.lst ys)):=by rw[ev,ea,aD];dsimp only;rw[if_pos (qA.mpr hl)]
theorem C3{h:VH}{l m:Nat}{xs ys:List Nat}(g:h.get l=aB (.lst (xs.map nI)))(g2:h.get m=aB (.lst (ys.map nI)))(hx:xs.length+ys.length<=1000000):ck .add (.ref l) (.ref m) h=.ok (.ref h.n) (h.new (.lst ((xs++ys).map nI))):=by rw[CQ g g2 (by rw[bF,bF];exact hx),ni]
theorem kY{h:VH}{i j:Nat}:ck .add (.int (i:Int)) (.int (j:Int)) h=.ok (.int ((i+j:Nat):Int)) h:=rfl
theorem xC{h:VH}{i j:Nat}(hj:j<=i):ck .sub (.int (i:Int)) (.int (j:Int)) h=.ok (.int ((i-j:Nat):Int)) h:=by rw[iT,show(i:Int)- (j:Int)=((i-j:Nat):Int) by lia]
theorem xD{h:VH}{i j:Nat}(hi:i<2 ^ 63):ck .mul (.int (i:Int)) (.int (j:Int)) h=.ok (.int ((i*j:Nat):Int)) h:=by rw[Kg (yP (by lia) (by lia))];rfl
theorem C4{h:VH}:ck .pow (.int 10) (.int 50) h=.ok (.int ((10 ^ 50:Nat):Int)) h:=by
 have:eF .pow 10 50=aB ((10 ^ 50:Nat):Int):=by decide +kernel
 simp only[ck,this,dO,aR]
theorem KS{h:VH}:ck .pow (.int 10) (.int 6) h=.ok (.int ((1000000:Nat):Int)) h:=by
 have:eF .pow 10 6=aB ((1000000:Nat):Int):=by decide +kernel
 simp only[ck,this,dO,aR]
theorem Lw.keep{h h':VH}{B:Bd}{xs:List aY}{bk:Option Nat}{l a c d e:Nat}(L:Lw h B xs bk l a c)(K:bD h h' d e)(h1:l≠d/\l≠e)(h2:a≠d/\a≠e)(h3:c≠d/\c≠e):Lw h' B xs bk l a c:=⟨K.get _ _ h1.1 h1.2 L.gl,K.get _ _ h2.1 h2.2 L.ga,K.get _ _ h3.1 h3.2 L.gc⟩
section
variable{F:Nat->Option Fn}(C:GC F)
include C
theorem zwv{k:Nat}{h:VH}{d e bb:Nat}{B:Bd}{s:aY}{xs:List aY}{bk:Option Nat}{l a c:Nat}(D:Dk h d e bb)(hb:bb+20<1000000000)(V:Ev B s xs bk)(L:Lw h B xs bk l a c)(n1:l≠d/\l≠e)(n2:a≠d/\a≠e)(n3:c≠d/\c≠e) :
 ∃(ns:List Nat) (q:Nat) (h':VH),run F (k+4) 701 [.ref d,.ref l] h=.ok (.ref q) h'/\h'.get q=aB (.lst (ns.map nI))/\(∀n∈ns,n<=10 ^ 50)/\ns.length<=20/\Dk h' d e (bb+20)/\bD h h' d e:=by
 rw[cA C.KP rfl];have QN:1000000000000000000000<=10 ^ 50:=by decide +kernel
 have l1:=V.l1;have l2:=V.l2;let k0:VH:=⟨h.n,h.n,h.os⟩
 have D0:Dk k0 d e bb:=D.lo;have hde:=D.lt;have L0:Lw k0 B xs bk l a c:=L.up λi o e=>e;obtain⟨t1,h1,e1,p1,q1,D1,K1⟩:=take C.q.toCoreD (k:=k) (m:=50) D0 (by lia) (by lia) (by lia);obtain⟨m1,rfl⟩:=kC p1;obtain⟨t2,h2,e2,p2,q2,D2,K2⟩:=take C.q.toCoreD (k:=k) (m:=3) D1 (by lia) (by lia) (by lia);obtain⟨m2,rfl⟩:=kC p2;have QO:=K1.trans K2;have L1:=L0.keep K1 n1 n2 n3;have L2:=L1.keep K2 n1 n2 n3;have hM:fq xs.length bk<=1280:=by unfold fq;split<;>lia
 have hlen:∀(ρ:En)(h':VH),ρ[3]?=aB (aB (.ref c))->h'.get c=aB (.lst ((seg (bX B xs) 0 (fq xs.length bk)).map nW))->ev (run F (k+3)) (.bi .len (.cons (.var 3) .nil)) ρ h'=.ok (.int (fq xs.length bk:Nat)) h':=λρ h' ki hc=>by
  have:=ic (cl:=run F (k+3)) (a:=.var 3) (ρ:=ρ) (h:=h') (h1:=h') (x:=.ref c) (ws:=(seg (bX B xs) 0 (fq xs.length bk)).map nW) (aE ki) (by simp only[aN,hc]);rw[bF,kD]at this;exact this
 let A:List Nat:=[0,1,2+m1,fq xs.length bk,fq xs.length bk+1,10 ^ 50-m2]
 let H5:=h2.new (.lst (A.map nI));have QS:H5.get h2.n=aB (.lst (A.map nI)):=cY;have D5:Dk H5 d e _:=D2.new;have KU:bD k0 H5 d e:=QO.new;have hA:∀n∈A,n<=10 ^ 50:=λn hn=>by
  simp only[A,eV,nG,ny]at hn;rcases hn with rfl|rfl|rfl|rfl|rfl|rfl<;>lia
 have e0:exs (run F (k+3)) (.lH [2,3,4] (.var 1)) [aB (.ref d),aB (.ref l),aC,aC,aC,aC,aC] k0=.ok (.nx [aB (.ref d),aB (.ref l),aB (.ref a),aB (.ref c),aB (aK bk),aC,aC]) k0:=by rw[exs,aE rfl,aD];simp only[bz,aN,L0.gl,gM,iB,gQ,dO,aR]
 have e5:ev (run F (k+3)) (.lst (.cons (.cst (.int (0))) (.cons (.cst (.int (1))) (.cons (.op .add (.cst (.int (2))) (.call 5 (.cons (.var 0) (.cons (.cst (.int (50))) .nil)))) (.cons (.bi .len (.cons (.var 3) .nil)) (.cons (.op .add (.bi .len (.cons (.var 3) .nil)) (.cst (.int (1)))) (.cons (.op .sub (.op .pow (.cst (.int (10))) (.cst (.int (50)))) (.call 5 (.cons (.var 0) (.cons (.cst (.int (3))) .nil)))) .nil))))))) [aB (.ref d),aB (.ref l),aB (.ref a),aB (.ref c),aB (aK bk),aC,aC] k0=.ok (.ref h2.n) H5:=by refine xB (fy rfl (fy rfl (fy (h1:=h1) (eN (h2:=h1) rfl (fL (aE rfl) rfl e1) (kY (i:=2))) (fy (hlen _ h1 rfl L1.gc) (fy (eN (hlen _ h1 rfl L1.gc) rfl (kY (j:=1))) (fy (h1:=h2) (eN (h1:=h1) (h2:=h2) (eN rfl rfl C4) (fL (aE rfl) rfl e2) (xC ?_)) rfl)))))) (show 6<=1000 by decide);lia
 have last:∀(hX:VH)(r b':Nat)(A':List Nat)(x6:Option W),b'<=bb+10->Dk hX d e b'->bD k0 hX d e->hX.get r=aB (.lst (A'.map nI))->h.n<=r->A'.length<=10->(∀n∈A',n<=10 ^ 50)->
  ∃(ns:List Nat) (q:Nat) (hY:VH),exs (run F (k+3)) (.seq (.ret (.op .add (.var 5) (.lst (.cons (.op .add (.op .mul (.op .mul (.call 5 (.cons (.var 0) (.cons (.op .pow (.cst (.int (10))) (.cst (.int (6)))) .nil))) (.call 5 (.cons (.var 0) (.cons (.op .pow (.cst (.int (10))) (.cst (.int (6)))) .nil)))) (.op .pow (.cst (.int (10))) (.cst (.int (6))))) (.call 5 (.cons (.var 0) (.cons (.op .pow (.cst (.int (10))) (.cst (.int (6)))) .nil)))) .nil)))) .skip) [aB (.ref d),aB (.ref l),aB (.ref a),aB (.ref c),aB (aK bk),aB (.ref r),x6] hX=.ok (.rt (.ref q)) hY/\h.n<=q/\hY.get q=aB (.lst (ns.map nI))/\(∀n∈ns,n<=10 ^ 50)/\ns.length<=20/\Dk hY d e (bb+20)/\bD k0 hY d e:=by
  intro hX r b' A' x6 hb' DX KX gr hr hl hA';obtain⟨u1,j1,f1,v1,w1,E1,G1⟩:=take C.q.toCoreD (k:=k) (m:=((1000000:Nat):Int)) DX (by lia) (by lia) (by lia);obtain⟨a1,rfl⟩:=kC v1;obtain⟨u2,j2,f2,v2,w2,E2,G2⟩:=take C.q.toCoreD (k:=k) (m:=((1000000:Nat):Int)) E1 (by lia) (by lia) (by lia);obtain⟨a2,rfl⟩:=kC v2;obtain⟨u3,j3,f3,v3,w3,E3,G3⟩:=take C.q.toCoreD (k:=k) (m:=((1000000:Nat):Int)) E2 (by lia) (by lia) (by lia);obtain⟨a3,rfl⟩:=kC v3;have hr2:r≠d/\r≠e:=by lia
  have g3:=((G1.trans G2).trans G3).get r _ hr2.1 hr2.2 gr;have hp:a1*a2<=1000000*1000000:=Nat.mul_le_mul (by lia) (by lia);let y:Nat:=a1*a2*1000000+a3;have hy:y<=10 ^ 50:=by show a1*a2*1000000+a3<=10 ^ 50;have:a1*a2*1000000<=1000000*1000000*1000000:=Nat.mul_le_mul hp (bq _);lia
  let j4:=j3.new (.lst ([y].map nI));have g4:j4.get r=aB (.lst (A'.map nI)):=iV _ _ g3;have gn:j4.get j3.n=aB (.lst ([y].map nI)):=cY;refine⟨A'++[y],j4.n,j4.new (.lst ((A'++[y]).map nI)),?_,?_,cY,λn hn=>?_,by rw[fS,kJ];lia,(E3.new.new).mono (by lia),((((KX.trans G1).trans G2).trans G3).new).new⟩;have c6:∀(ρ:En)(h':VH),ev (run F (k+3)) (.op .pow (.cst (.int (10))) (.cst (.int (6)))) ρ h'=.ok (.int ((1000000:Nat):Int)) h':=λρ h'=>eN rfl rfl KS;refine cQ (bS (eN (h1:=hX) (h2:=j4) (x:=.ref r) (y:=.ref j3.n) (aE rfl) ?_ (C3 g4 gn (by simp;lia))));refine xB (fy (h1:=j3) (eN (h1:=j2) (h2:=j3) (eN (h1:=j2) (h2:=j2) (eN (h1:=j1) (h2:=j2) (fL (aE rfl) (c6 _ _) f1) (fL (aE rfl) (c6 _ _) f2) (xD (by lia))) (c6 _ _) (xD (by lia))) (fL (aE rfl) (c6 _ _) f3) kY) rfl) (show 1<=1000 by decide);have:=(((KX.trans G1).trans G2).trans G3).le;show h.n<=j3.n+1;have:h.n<=j3.n:=this;lia;rcases nh.mp hn with q|q
  exact hA' n q;rw[i7.mp q];exact hy
 have key:∃(ns:List Nat) (q:Nat) (hY:VH),exs (run F (k+3)) FJ.body [aB (.ref d),aB (.ref l),aC,aC,aC,aC,aC] k0=.ok (.rt (.ref q)) hY/\h.n<=q/\hY.get q=aB (.lst (ns.map nI))/\(∀n∈ns,n<=10 ^ 50)/\ns.length<=20/\Dk hY d e (bb+20)/\bD k0 hY d e:=by
  have hn2:h.n<=h2.n:=QO.le;cases C2:bk with
  |none=>
   subst C2;obtain⟨ns,q,hY,el,r⟩:=last H5 h2.n (bb+1+1) A aC (by lia) D5 KU QS hn2 (by show 6<=10;decide) hA;refine⟨ns,q,hY,?_,r⟩;exact(aT e0).trans ((aT (bJ e5)).trans ((aT ((cD (h1:=H5) rfl).trans rfl)).trans el))
  |some i=>
   subst C2;have hi:=V.bl i rfl;have QT:fq xs.length (aB i)=xs.length:=rfl;have L5:Lw H5 B xs (aB i) l a c:=L2.up iV;obtain⟨t3,h3,e3,p3,q3,D3,K3⟩:=take C.q.toCoreD (k:=k) (m:=1000) D5 (by lia) (by lia) (by lia);obtain⟨m3,rfl⟩:=kC p3;have L3:=L5.keep K3 n1 n2 n3;let R:=xs.length-i;let Bs:List Nat:=[i,i+1,i+R* (1+m3),xs.length+R-1]
   have hR:R* (1+m3)<=1280*1000:=Nat.mul_le_mul (show xs.length-i<=1280 by lia) (by lia);have hB:∀n∈Bs,n<=10 ^ 50:=λn hn=>by
    simp only[Bs,eV,nG,ny]at hn;have:R<=1280:=show xs.length-i<=1280 by lia
    rcases hn with rfl|rfl|rfl|rfl<;>lia
   let H6:=h3.new (.lst (Bs.map nI));have hr2:h2.n≠d/\h2.n≠e:=by lia
   have g3:=K3.get h2.n _ hr2.1 hr2.2 QS;have g6:H6.get h2.n=aB (.lst (A.map nI)):=iV _ _ g3;have g6':H6.get h3.n=aB (.lst (Bs.map nI)):=cY;let H7:=H6.new (.lst ((A++Bs).map nI));have K07:bD k0 H7 d e:=((KU.trans K3).new).new;obtain⟨ns,q,hY,el,r⟩:=last H7 H6.n (bb+1+1+1) (A++Bs) (aB (.int (R:Int))) (by lia) (D3.new.new) K07 cY (by have:=(KU.trans K3).le;show h.n<=h3.n+1;have:h.n<=h3.n:=this;lia) (by show 10<=10;decide) (λn hn=>by
    rcases nh.mp hn with q|q;exact hA n q;exact hB n q)
   refine⟨ns,q,hY,?_,r⟩;refine(aT e0).trans ((aT (bJ e5)).trans ((aT (ρ':=[aB (.ref d),aB (.ref l),aB (.ref a),aB (.ref c),aB (aK (aB i)),aB (.ref H6.n),aB (.int (R:Int))]) (h':=H7) ((fM (h1:=H5) rfl).trans ?_)).trans el));have e6:ev (run F (k+3)) (.op .sub (.bi .len (.cons (.var 3) .nil)) (.var 4)) [aB (.ref d),aB (.ref l),aB (.ref a),aB (.ref c),aB (aK (aB i)),aB (.ref h2.n),aC] H5=.ok (.int (R:Int)) H5:=by refine eN (hlen _ H5 rfl L5.gc) (aE rfl) ?_;rw[QT];exact xC (by lia)
   refine(aT (bJ e6)).trans ?_;let gz:En:=[aB (.ref d),aB (.ref l),aB (.ref a),aB (.ref c),aB (aK (aB i)),aB (.ref h2.n),aB (.int (R:Int))]
   have e7:ev (run F (k+3)) (.lst (.cons (.var 4) (.cons (.op .add (.var 4) (.cst (.int (1)))) (.cons (.op .add (.var 4) (.op .mul (.var 6) (.op .add (.cst (.int (1))) (.call 5 (.cons (.var 0) (.cons (.cst (.int (1000))) .nil)))))) (.cons (.op .sub (.op .add (.bi .len (.cons (.var 3) .nil)) (.var 6)) (.cst (.int (1)))) .nil))))) gz H5=.ok (.ref h3.n) H6:=by
    have c1:ev (run F (k+3)) (.op .add (.var 4) (.cst (.int (1)))) gz H5=.ok (nI (i+1)) H5:=eN (aE rfl) rfl (kY (i:=i) (j:=1));have c2:ev (run F (k+3)) (.op .add (.var 4) (.op .mul (.var 6) (.op .add (.cst (.int (1))) (.call 5 (.cons (.var 0) (.cons (.cst (.int (1000))) .nil)))))) gz H5=.ok (nI (i+R* (1+m3))) h3:=by
     refine eN (h1:=H5) (h2:=h3) (x:=.int (i:Int)) (y:=.int ((R* (1+m3):Nat):Int)) (aE rfl) (eN (h1:=H5) (h2:=h3) (x:=.int (R:Int)) (y:=.int ((1+m3:Nat):Int)) (aE rfl) (eN (h1:=H5) (h2:=h3) rfl (fL (aE rfl) rfl e3) (kY (i:=1))) (xD (show R<2 ^ 63 from ?_))) kY;have:R<=1280:=show xs.length-i<=1280 by lia
     lia
    have c3:ev (run F (k+3)) (.op .sub (.op .add (.bi .len (.cons (.var 3) .nil)) (.var 6)) (.cst (.int (1)))) gz h3=.ok (nI (xs.length+R-1)) h3:=by refine eN (h1:=h3) (h2:=h3) (x:=.int ((xs.length+R:Nat):Int)) (y:=.int ((1:Nat):Int)) (eN (hlen _ h3 rfl L3.gc) (aE rfl) ?_) rfl (xC (by lia));rw[QT];exact kY
    exact xB (fy (x:=nI i) (aE rfl) (fy c1 (fy c2 (fy c3 rfl)))) (show 4<=1000 by decide)
   refine(aT (bJ (eN (aE rfl) e7 (C3 g6 g6' (by show 6+4<=1000000;decide))))).trans rfl
 obtain⟨ns,q,hY,ek,hq,gq,a1,a2,DY,KY⟩:=key;obtain⟨h6,e6,n6,g6⟩:=KD (h:=h) (h':=hY) hq;refine⟨ns,q,h6,?_,(g6 _).trans gq,a1,a2,DY.gx λi o e=>by rw[g6];exact e,⟨by rw[n6];exact KY.le,λi o x y e=>by rw[g6];exact KY.get i o x y (by rw[bC];exact e)⟩⟩;show fin h (exs (run F (k+3)) FJ.body [aB (.ref d),aB (.ref l),aC,aC,aC,aC,aC] k0)=_;rw[ek];exact e6
theorem QU{k:Nat}{h:VH}{B:Bd}{s:aY}{xs:List aY}{bk:Option Nat}{l a c q d:Nat}{ns:List Nat}(b:B.Ok)(g:br B s)(V:Ev B s xs bk)(hE:aH B 1281 [] (aB s)=(xs,bk))(L:Lw h B xs bk l a c)(gq:h.get q=aB (.lst (ns.map nI)))(hn:∀n∈ns,n<=10 ^ 50) :
 ∀(m j fu:Nat)(x5 x6:Option W),j+m=ns.length->m<fu->∃y5 y6,cJ (bw .seq (.ref q)) (bz (.one 5)) (exs (run F (k+12)) Ju) fu j [aB (.ref d),aB B.w,aB (aG s),aB (.ref l),aB (eg (xs,bk)),x5,x6] h=.ok (.nx [aB (.ref d),aB B.w,aB (aG s),aB (.ref l),aB (eg (xs,bk)),y5,y6]) h
 |m,j,0,x5,x6,hj,hfu=>by lia
 |0,j,fu+1,x5,x6,hj,hfu=>⟨x5,x6,CT (by rw[pI gq,qp (by rw[bF];lia)])⟩
 |m+1,j,fu+1,x5,x6,hj,hfu=>by
  have hl:j<ns.length:=by lia
  have e1:bw .seq (.ref q) j h=aB (aB (nI ns[j])):=by rw[pI gq,iC,iA hl];rfl
  have hmem:=hn _ (nF hl);generalize ns[j]=n at *;obtain⟨y5,y6,e⟩:=QU (k:=k) (d:=d) b g V hE L gq hn m (j+1) fu (aB (nI n)) (aB (dR B xs bk n)) (by lia) (by lia);refine⟨y5,y6,?_⟩;refine(uT (w:=nI n) (jI:=[aB (.ref d),aB B.w,aB (aG s),aB (.ref l),aB (eg (xs,bk)),aB (nI n),x6]) e1 rfl ?_).trans e;have a1:=zqk C.sY C.ig (k:=k+9) (n:=n) b V L;have a2:=zwu C.toC19 b V (k:=k) (n:=n) (h:=h) g hE hmem;have a3:=zhk C.toC19 b V (k:=k) (n:=n) (h:=h) g hE hmem;have dn:=QL b V (n:=n);have a4:=zsm C.m 4 (k:=k+6) (h:=h) dn;let ρ:En:=[aB (.ref d),aB B.w,aB (aG s),aB (.ref l),aB (eg (xs,bk)),aB (nI n),aB (dR B xs bk n)]
  unfold Ju;refine(aT (bJ (fL (aE rfl) (aE rfl) a1))).trans ?_;refine(aT (ρ':=ρ) (h':=h) ((cD (h1:=h) ?_).trans rfl)).trans ?_;have c1:ev (run F (k+12)) (.cmp .le (.var 5) (.cst (.int (60)))) ρ h=.ok (.bl (decide ((n:Int)<=60))) h:=rfl;by_cases z:n<=60;rw[gg (by lia)]at c1;have a5:=zi9 C.toC19 b V (k:=k+9) (n:=n) (h:=h) z;refine(xA c1).trans ?_;rw[ev,aE (x:=dR B xs bk n) rfl,aD,pA (x:=B.w) (y:=aG s) (z:=.int (n:Int)) (aE rfl) (aE rfl) (aE rfl) a5,aD];simp only[aQ,zsu dn,dO,aR];rfl;rw[fE (by lia)]at c1;exact CY c1;refine(aT (ρ':=ρ) (h':=h) ((cD (h1:=h) ?_).trans rfl)).trans ?_;rw[ev,kj (fL (pA (aE rfl) (aE rfl) (aE rfl) a2) (aE rfl) a4)];rfl;refine(aT (ρ':=ρ) (h':=h) ((cD (h1:=h) ?_).trans rfl)).trans rfl;rw[ev,z09 (aE rfl) (aE rfl) (aE rfl) (aE rfl) (aE rfl) a3,aD];rfl
theorem KW{k:Nat}{h:VH}{d e bb:Nat}{B:Bd}{s:aY}(b:B.Ok)(g:br B s)(D:Dk h d e bb)(hb:bb+20<1000000000):∃h',run F (k+13) 702 [.ref d,B.w,aG s] h=.ok (.bl true) h'/\Dk h' d e (bb+20)/\bD h h' d e:=by
 rw[cA C.KQ rfl];let k0:VH:=⟨h.n,h.n,h.os⟩
 have D0:Dk k0 d e bb:=D.lo;obtain⟨i,a,c,h1,e1,g1,g2,g3,na,nc,G⟩:=P9 C.x (k:=k+9) (h:=k0) b g;have V:=CO b g;have hE:aH B 1281 [] (aB s)=aH B 1280 [s] (aV B s):=zmv 1280;rw[zqg b V.gd]at g3;generalize aH B 1280 [s] (aV B s)=E at *;obtain⟨xs,bk⟩:=E;have L1:Lw h1 B xs bk i a c:=⟨g1,g2,g3⟩
 have D1:=D0.gx G.get;have hde:=D.lt;have hi:i≠d/\i≠e:=by obtain⟨_,qi,cells,p0,q0,a1,a2,_⟩:=D1;refine⟨λz=>?_,λz=>?_⟩;rw[z,a1]at g1;cases g1;rw[z,a2]at g1;rcases cells with _|⟨c0,_⟩<;>cases g1
 have ha:a≠d/\a≠e:=by have:h.n<=a:=na;lia
 have hc:c≠d/\c≠e:=by have:h.n<=c:=nc;lia
 have K1:bD k0 h1 d e:=⟨G.le,λi o _ _ e=>G.get i o e⟩
 obtain⟨ns,q,h2,e2,gq,hn,hl,D2,K2⟩:=zwv C (k:=k+8) D1 hb V L1 hi ha hc;have L2:=L1.keep K2 hi ha hc;obtain⟨y5,y6,el⟩:=QU C (k:=k) (d:=d) b g V hE L2 gq hn ns.length 0 fuel aC aC (by lia) (by unfold fuel;lia);have eb:exs (run F (k+12)) Jv.body [aB (.ref d),aB B.w,aB (aG s),aC,aC,aC,aC] k0=.ok (.rt (.bl true)) h2:=by refine(aT (bJ (fL (aE rfl) (aE rfl) e1))).trans ?_;refine(aT (bJ (x:=eg (xs,bk)) (h1:=h1) (cy (O6 (bY (aE rfl) rfl (zb (j:=0) g1 rfl)) g2) (bY (aE rfl) rfl (zb (j:=2) g1 rfl))))).trans ?_;refine(aT (ρ':=[aB (.ref d),aB B.w,aB (aG s),aB (.ref i),aB (eg (xs,bk)),y5,y6]) (h':=h2) ?_).trans ?_;rw[exs,fL (aE rfl) (aE rfl) e2,aD];exact el;exact cQ (bS rfl)
 exact sL (cl:=run F (k+12)) (fl:=.nx []) (h:=h) eb (.inr ⟨bb,D⟩) D2 (K1.trans K2)
end
section
variable{F:Nat->Option Fn}(C:GC F)
include C
theorem QV{k:Nat}{h:VH}{d c bb:Nat}{B:Bd}(b:B.Ok)(D:Dk h d c bb)(hb:bb+20<1000000000) :
 ∃s h',run F (k+5) 93 [.ref d,B.w] h=.ok (aG s) h'/\br B s/\Dk h' d c (bb+20)/\bD h h' d c:=by
 rw[cA C.f93 rfl];obtain⟨g,hg⟩:=kC b.g1;have hg8:g<=8:=by have:=b.g2;lia
 have hf1:=b.f1;have hf4:=b.f2;have D0:Dk ⟨h.n,h.n,h.os⟩ d c bb:=D.lo;obtain⟨ls,h1,e1,l1,b1,D1,K1⟩:=Z4 C.q.toCoreD (k:=k) (g:=g) C.JR D0 (by lia) hg8;obtain⟨r,h2,e2,r0,r1,D2,K2⟩:=take C.q.toCoreD (k:=k+1) (m:=(B.fd.length:Int)) D1 (by lia) (by lia) (by lia);obtain⟨f,rfl⟩:=kC r0;obtain⟨t,h3,e3,t0,t1,D3,K3⟩:=take C.q.toCoreD (k:=k+1) (m:=12) D2 (by lia) (by lia) (by lia);have i1:bx ⟨h.n,h.n,h.os⟩ B.w (.int 1)=aB (.int B.gr):=rfl;have i3:bx h1 B.w (.int 3)=aB (.tup B.fd):=rfl;have ec:ev (run F (k+4)) (.cmp .eq (.call 5 (.cons (.var 0) (.cons (.cst (.int (12))) .nil))) (.cst (.int (7)))) [aB (.ref d),aB B.w,aB (iW ls),aB (.int f)] h2=.ok (.bl (decide (t=7))) h3:=by rw[ev,fL (x:=.ref d) (y:=.int 12) (aE rfl) rfl e3,aD,ev,aD];simp only[aQ,iN,dO,aR]
 have eb:exs (run F (k+4)) wH.body [aB (.ref d),aB B.w,aC,aC] ⟨h.n,h.n,h.os⟩=.ok (.rt (aG (ls,if t=7 then aC else aB f))) h3:=by refine(aT (bJ (fL (aE rfl) (bY (aE rfl) rfl i1) (by rw[hg];exact e1)))).trans ?_;refine(aT (bJ (fL (aE rfl) (ic (ws:=B.fd) (bY (aE rfl) rfl i3) rfl) e2))).trans ?_;by_cases z:t=7;rw[if_pos z];rw[gg z]at ec;refine cQ ?_;refine(fM ec).trans ?_;exact cQ (bS (cy (aE rfl) rfl));rw[if_neg z];rw[fE z]at ec;refine(aT (ρ':=[aB (.ref d),aB B.w,aB (iW ls),aB (.int f)]) (h':=h3) ?_).trans (cQ (bS (cy (aE rfl) (aE rfl))));exact(cD ec).trans rfl
 obtain⟨h5,e5,D5,K5⟩:=sL (cl:=run F (k+4)) (fl:=.nx []) (h:=h) eb (.inr ⟨bb,D⟩) (D3.mono (show _<=bb+20 by lia)) ((K1.trans K2).trans K3);refine⟨_,h5,e5,⟨by show(ls.length:Int)=B.gr;lia,b1,λf' e=>?_⟩,D5,K5⟩;have e:(if t=7 then aC else aB f)=aB f':=e;split at e;cases e;cases e;lia
theorem zqm{k:Nat}{h:VH}{d c bb:Nat}(D:Dk h d c bb)(hb:bb+14000<1000000000) :
 ∃B h',run F (k+7) 99 [.ref d] h=.ok (Bd.w B) h'/\B.Ok/\Dk h' d c (bb+14000)/\bD h h' d c:=by
 rw[cA C.f99 rfl];have D0:Dk ⟨h.n,h.n,h.os⟩ d c bb:=D.lo;obtain⟨t,h1,e1,t0,t1,D1,K1⟩:=take C.q.toCoreD (k:=k+3) (m:=8) D0 (by lia) (by lia) (by lia);have es:exs (run F (k+6)) (.set 1 (.call 5 (.cons (.var 0) (.cons (.cst (.int (8))) .nil)))) [aB (.ref d),aC] ⟨h.n,h.n,h.os⟩=.ok (.nx [aB (.ref d),aB (.int t)]) h1:=bJ (fL (aE rfl) rfl e1);have ec:∀j:Int,ev (run F (k+6)) (.cmp .eq (.var 1) (.cst (.int j))) [aB (.ref d),aB (.int t)] h1=.ok (.bl (decide (t=j))) h1:=λj=>by
  simp[ev,aQ,iN]
 obtain⟨mw,mr,mg,hw1,hw2,hr1,hr2,FZ,sJ,hx⟩:∃mw mr mg:Int,1<=mw/\mw<=40/\0<=mr/\mr<=60/\0<=mg/\mg<=8/\∀w h2,run F (k+6) 26 [.ref d,.int mw,.int mr,.int mg] h1=.ok w h2->exs (run F (k+6)) wI.body [aB (.ref d),aC] ⟨h.n,h.n,h.os⟩=.ok (.rt w) h2:=by by_cases z:t=0;refine⟨40,60,8,by decide,by decide,by decide,by decide,by decide,by decide,λw h2 e=>?_⟩;refine(aT es).trans (cQ ?_);rw[fM (by rw[ec,gg z])];exact cQ (bS (CG (aE rfl) rfl rfl rfl e));by_cases z1:t=1;refine⟨6,12,6,by decide,by decide,by decide,by decide,by decide,by decide,λw h2 e=>?_⟩;refine(aT es).trans ?_;refine(aT (ρ':=[aB (.ref d),aB (.int t)]) (h':=h1) (by rw[cD (by rw[ec,fE z])];rfl)).trans (cQ ?_);rw[fM (by rw[ec,gg z1])];exact cQ (bS (CG (aE rfl) rfl rfl rfl e));refine⟨9,8,4,by decide,by decide,by decide,by decide,by decide,by decide,λw h2 e=>?_⟩;refine(aT es).trans ?_;refine(aT (ρ':=[aB (.ref d),aB (.int t)]) (h':=h1) (by rw[cD (by rw[ec,fE z])];rfl)).trans ?_;refine(aT (ρ':=[aB (.ref d),aB (.int t)]) (h':=h1) (by rw[cD (by rw[ec,fE z1])];rfl)).trans (cQ ?_);exact bS (CG (aE rfl) rfl rfl rfl e)
 obtain⟨B,h2,e2,b,_,_,_,D2,K2⟩:=Pb C.q (k:=k) (mw:=mw) (mr:=mr) (mg:=mg) D1 (by lia) hw1 hw2 hr1 hr2 FZ sJ;obtain⟨h5,e5,D5,K5⟩:=sL (cl:=run F (k+6)) (fl:=.nx []) (h:=h) (hx _ _ e2) (.inr ⟨bb,D⟩) (D2.mono (show _<=bb+14000 by lia)) (K1.trans K2);exact⟨B,h5,e5,b,D5,K5⟩
theorem near{k:Nat}{h:VH}{d c bb:Nat}(D:Dk h d c bb)(hb:bb+40000<1000000000) :
 ∃B s l h',run F (k+8) 132 [.ref d] h=.ok (.ref l) h'/\h'.get l=aB (.lst [Bd.w B,aG s])/\B.Ok/\br B s/\h.n<=l/\Dk h' d c (bb+40000)/\bD h h' d c:=by
 rw[cA C.KI rfl];have D0:Dk ⟨h.n,h.n,h.os⟩ d c bb:=D.lo;obtain⟨B,h1,e1,b,D1,K1⟩:=zqm C (k:=k) D0 (by lia);obtain⟨s,h2,e2,gs,D2,K2⟩:=QV C (k:=k+2) b D1 (by lia);obtain⟨i,a,c',h3,e3,g1,g2,_,hna,_,G⟩:=P9 C.x (k:=k+4) (h:=h2) b gs;obtain⟨nd,gd⟩:=Gk b 1280 [s] (aV B s) (by simp) (λt ht=>by rw[i7.mp ht];exact gs) (λt ht=>xj b gs ht);generalize aH B 1280 [s] (aV B s)=E at *;have hfew:=few b nd gd;have D3:=D2.gx G.get;have K3:bD h2 h3 d c:=⟨G.le,λi o _ _ e=>G.get i o e⟩
 have hr:=b.r1;have el:ev (run F (k+7)) (.bi .len (.cons (.idx (.call 112 (.cons (.var 1) (.cons (.var 2) .nil))) (.cst (.int (0)))) .nil)) [aB (.ref d),aB B.w,aB (aG s)] h2=.ok (.int (E.1.length:Int)) h3:=by have:=ic (cl:=run F (k+7)) (a:=.idx (.call 112 (.cons (.var 1) (.cons (.var 2) .nil))) (.cst (.int (0)))) (ρ:=[aB (.ref d),aB B.w,aB (aG s)]) (h:=h2) (h1:=h3) (x:=.ref a) (ws:=E.1.map aG) (bY (fL (aE rfl) (aE rfl) e3) rfl (zb (j:=0) g1 rfl)) (by simp only[aN,g2]);rw[bF]at this;exact this
 have er:ev (run F (k+7)) (.bi .len (.cons (.idx (.var 1) (.cst (.int (2)))) .nil)) [aB (.ref d),aB B.w,aB (aG s)] h3=.ok (.int (B.rows.length:Int)) h3:=by have:=ic (cl:=run F (k+7)) (a:=.idx (.var 1) (.cst (.int (2)))) (ρ:=[aB (.ref d),aB B.w,aB (aG s)]) (h:=h3) (h1:=h3) (x:=.tup (B.rows.map .tup)) (ws:=B.rows.map .tup) (bY (aE rfl) rfl rfl) rfl;rw[bF]at this;exact this
 have em:ck .mul (.int (E.1.length:Int)) (.int (B.rows.length:Int)) h3=.ok (.int ((E.1.length:Int)* (B.rows.length:Int))) h3:=by have hs:nu (E.1.length:Int)=true:=yP (by lia) (by lia);simp only[ck,eF,hs,zl,b9,dO,aR]
 have ec:ev (run F (k+7)) (.cmp .gt (.op .mul (.bi .len (.cons (.idx (.call 112 (.cons (.var 1) (.cons (.var 2) .nil))) (.cst (.int (0)))) .nil)) (.bi .len (.cons (.idx (.var 1) (.cst (.int (2)))) .nil))) (.cst (.int (6000)))) [aB (.ref d),aB B.w,aB (aG s)] h2=.ok (.bl (decide ((6000:Int)< (E.1.length:Int)* (B.rows.length:Int)))) h3:=by rw[ev,eN el er em,aD,ev,aD];simp only[aQ,fJ,dO,aR]
 obtain⟨hd3,hc3⟩:=D3.lt;have hdn:d<h.n/\c<h.n:=D.lt;by_cases z:(6000:Int)< (E.1.length:Int)* (B.rows.length:Int);rw[gg z]at ec;obtain⟨B2,h4,e4,b2,_,_,_,D4,K4⟩:=Pb C.q (k:=k+1) (mw:=9) (mr:=8) (mg:=4) D3 (by lia) (by lia) (by lia) (by lia) (by lia) (by lia) (by lia);obtain⟨s2,h5,e5,KZ,D5,K5⟩:=QV C (k:=k+2) b2 D4 (by lia);have eb:exs (run F (k+7)) jr.body [aB (.ref d),aC,aC] ⟨h.n,h.n,h.os⟩=.ok (.rt (.ref h5.n)) (h5.new (.lst [B2.w,aG s2])):=by refine(aT (bJ (sR (aE rfl) e1))).trans ?_;refine(aT (bJ (fL (aE rfl) (aE rfl) e2))).trans ?_;refine(aT (ρ':=[aB (.ref d),aB B2.w,aB (aG s2)]) (h':=h5) ?_).trans ?_;refine(fM ec).trans ?_;refine(aT (bJ (CG (aE rfl) rfl rfl rfl e4))).trans ?_;exact(aT (bJ (fL (aE rfl) (aE rfl) e5))).trans rfl;exact cQ (bS (pB (aE rfl) (aE rfl)))
 have pL:bD ⟨h.n,h.n,h.os⟩ (h5.new (.lst [B2.w,aG s2])) d c:=((((K1.trans K2).trans K3).trans K4).trans K5).new;have hle:h.n<=h5.n:=((((K1.trans K2).trans K3).trans K4).trans K5).le;obtain⟨h6,e6,n6,g6⟩:=KD (h:=h) (h':=h5.new (.lst [B2.w,aG s2])) hle;refine⟨B2,s2,h5.n,h6,?_,(g6 _).trans cY,b2,KZ,hle,?_,⟨by rw[n6];exact pL.le,λi o x y e=>by rw[g6];exact pL.get i o x y (by rw[bC];exact e)⟩⟩;show fin h (exs (run F (k+7)) jr.body [aB (.ref d),aC,aC] ⟨h.n,h.n,h.os⟩)=_;rw[eb];exact e6;exact(D5.new.gx (h':=h6) λi o e=>by rw[g6];exact e).mono (by lia);rw[fE z]at ec;have eb:exs (run F (k+7)) jr.body [aB (.ref d),aC,aC] ⟨h.n,h.n,h.os⟩=.ok (.rt (.ref h3.n)) (h3.new (.lst [B.w,aG s])):=by refine(aT (bJ (sR (aE rfl) e1))).trans ?_;refine(aT (bJ (fL (aE rfl) (aE rfl) e2))).trans ?_;refine(aT (ρ':=[aB (.ref d),aB B.w,aB (aG s)]) (h':=h3) ((cD ec).trans rfl)).trans ?_;exact cQ (bS (pB (aE rfl) (aE rfl)))
 have pL:bD ⟨h.n,h.n,h.os⟩ (h3.new (.lst [B.w,aG s])) d c:=((K1.trans K2).trans K3).new;have hle:h.n<=h3.n:=((K1.trans K2).trans K3).le;obtain⟨h6,e6,n6,g6⟩:=KD (h:=h) (h':=h3.new (.lst [B.w,aG s])) hle;refine⟨B,s,h3.n,h6,?_,(g6 _).trans cY,b,gs,hle,?_,⟨by rw[n6];exact pL.le,λi o x y e=>by rw[g6];exact pL.get i o x y (by rw[bC];exact e)⟩⟩;show fin h (exs (run F (k+7)) jr.body [aB (.ref d),aC,aC] ⟨h.n,h.n,h.os⟩)=_;rw[eb];exact e6;exact(D3.new.gx (h':=h6) λi o e=>by rw[g6];exact e).mono (by lia)
end
section
variable{F:Nat->Option Fn}(C:GC F)
include C
theorem C5{ns:List Int}(hl:ns.length<=63):yK (run F 30 703 [.fz (ns.map .int)] ⟨0,0,[]⟩)=true:=by
 rw[show(30:Nat)=29+1 from rfl,cA C.KR rfl];obtain⟨h1,e1,D1⟩:=JQ C.q.toCoreD (k:=28) (h:=⟨0,0,[]⟩) hl;obtain⟨B1,s1,l1,h2,e2,g2,b1,Gh,hl1,D2,K2⟩:=near C (k:=21) D1 (by lia);obtain⟨B2,s2,l2,h3,e3,g3,b2,KZ,hl2,D3,K3⟩:=near C (k:=21) D2 (by lia);obtain⟨hd1,hc1⟩:=D1.lt;have QW:=K3.get l1 _ (by lia) (by lia) g2;have hn1:=cK QW;have hn2:=cK g3;have hfu:fuel=999997+3:=rfl;have gl:(h3.new (.lst [.ref l1,.ref l2])).get h3.n=aB (.lst [.ref l1,.ref l2]):=cY;have K0:(h3.new (.lst [.ref l1,.ref l2])).get l1=aB (.lst [B1.w,aG s1]):=(gE hn1).trans QW;have La:(h3.new (.lst [.ref l1,.ref l2])).get l2=aB (.lst [B2.w,aG s2]):=(gE hn2).trans g3;have D4:Dk (h3.new (.lst [.ref l1,.ref l2])) 1 0 _:=D3.new;generalize QX:h3.new (.lst [.ref l1,.ref l2])=h4 at gl K0 La D4;have n4:h4.n=h3.n+1:=by rw[<-QX];rfl
 have two:∀(h:VH)(e:E)(y1 y2:W),h.get h3.n=aB (.lst [.ref l1,.ref l2])->h.get l1=aB (.lst [B1.w,aG s1])->h.get l2=aB (.lst [B2.w,aG s2])->ev (run F 29) e [aB B1.w,aB (aG s1)] h=.ok y1 h->ev (run F 29) e [aB B2.w,aB (aG s2)] h=.ok y2 h->
  eG (bw .seq (.ref h3.n)) (bz (.many [0,1])) (ev (run F 29) (.cst (.bl true))) (ev (run F 29) e) fuel 0 [aC,aC] h []=.ok [y1,y2] h:=by
  intro h e y1 y2 a1 a2 a3 a4 a5;have l:=zwq (nx:=bw .seq (.ref h3.n)) (tg:=bz (.many [0,1])) (c:=ev (run F 29) (.cst (.bl true))) (e:=ev (run F 29) e) (KG:=[aC,aC]) (jI:=[aB B1.w,aB (aG s1)]) (pH:=[aB B2.w,aB (aG s2)]) (h0:=h) (h1:=h) (h2:=h) (w0:=.ref l1) (w1:=.ref l2) (y0:=y1) (y1:=y2)
   (by simp only[bw,aN,a1];rfl) (by simp only[bz,aN,a2];rfl) rfl a4 (by simp only[bw,aN,a1];rfl) (by simp only[bz,aN,a3];rfl) rfl a5 (by simp only[bw,aN,a1];rfl) 999997
  rw[hfu];exact l
 have QY:ev (run F 29) (.lc .seq (.var 2) (.many [0,1]) 2 [] (.cst (.bl true)) Jw) [aB (.fz (ns.map .int)),aB (.ref 1),aB (.ref h3.n),aC,aC,aC] h4=.ok (.ref h4.n) (h4.new (.lst [B1.w,B2.w])):=Qk (aE rfl) (two h4 Jw B1.w B2.w gl K0 La rfl rfl) (show 2<=1000000 by decide);have QZ:(h4.new (.lst [B1.w,B2.w])).get h3.n=aB (.lst [.ref l1,.ref l2]):=iV _ _ gl;have Q0:(h4.new (.lst [B1.w,B2.w])).get l1=aB (.lst [B1.w,aG s1]):=iV _ _ K0;have Q2:(h4.new (.lst [B1.w,B2.w])).get l2=aB (.lst [B2.w,aG s2]):=iV _ _ La;have Q3:(h4.new (.lst [B1.w,B2.w])).get h4.n=aB (.lst [B1.w,B2.w]):=cY;have D5:Dk (h4.new (.lst [B1.w,B2.w])) 1 0 _:=D4.new;generalize hh5:h4.new (.lst [B1.w,B2.w])=h5 at QY QZ Q0 Q2 Q3 D5;have n5:h5.n=h4.n+1:=by rw[<-hh5];rfl
 have el4:ev (run F 29) (.lc .seq (.var 2) (.many [0,1]) 2 [] (.cst (.bl true)) Jx) [aB (.fz (ns.map .int)),aB (.ref 1),aB (.ref h3.n),aB (.ref h4.n),aC,aC] h5=.ok (.ref h5.n) (h5.new (.lst [aG s1,aG s2])):=Qk (aE rfl) (two h5 Jx (aG s1) (aG s2) QZ Q0 Q2 rfl rfl) (show 2<=1000000 by decide);have gb:((h5.new (.lst [aG s1,aG s2])).new (.lst [.int 0,.int 1,.int 0])).get h4.n=aB (.lst [B1.w,B2.w]):=iV _ _ (iV _ _ Q3);have Lb:((h5.new (.lst [aG s1,aG s2])).new (.lst [.int 0,.int 1,.int 0])).get h5.n=aB (.lst [aG s1,aG s2]):=iV _ _ cY;have gt:((h5.new (.lst [aG s1,aG s2])).new (.lst [.int 0,.int 1,.int 0])).get (h5.n+1)=aB (.lst [.int 0,.int 1,.int 0]):=cY (h:=h5.new (.lst [aG s1,aG s2]));have D8:Dk ((h5.new (.lst [aG s1,aG s2])).new (.lst [.int 0,.int 1,.int 0])) 1 0 _:=D5.new.new;generalize hh8:(h5.new (.lst [aG s1,aG s2])).new (.lst [.int 0,.int 1,.int 0])=h8 at gb Lb gt D8;have pM:∀(t:Nat)(B:Bd)(s:aY)(h h':VH),h.get h4.n=aB (.lst [B1.w,B2.w])->h.get h5.n=aB (.lst [aG s1,aG s2])->[B1.w,B2.w][t]?=aB B.w->[aG s1,aG s2][t]?=aB (aG s)->run F 29 702 [.ref 1,B.w,aG s] h=.ok (.bl true) h'->exs (run F 29) FL [aB (.fz (ns.map .int)),aB (.ref 1),aB (.ref h3.n),aB (.ref h4.n),aB (.ref h5.n),aB (.int (t:Int))] h=.ok (.nx [aB (.fz (ns.map .int)),aB (.ref 1),aB (.ref h3.n),aB (.ref h4.n),aB (.ref h5.n),aB (.int (t:Int))]) h':=by
  intro t B s h h' hgb hgs hB hS hr;have en:ev (run F 29) (.not (.jb (.call 702 (.cons (.var 1) (.cons (.idx (.var 3) (.var 5)) (.cons (.idx (.var 4) (.var 5)) .nil)))))) [aB (.fz (ns.map .int)),aB (.ref 1),aB (.ref h3.n),aB (.ref h4.n),aB (.ref h5.n),aB (.int (t:Int))] h=.ok (.bl false) h':=by rw[ev,kj (pA (aE rfl) (bY (aE rfl) (aE rfl) (zb hgb hB)) (bY (aE rfl) (aE rfl) (zb hgs hS)) hr)];rfl
  unfold FL;exact(aT ((cD en).trans rfl)).trans rfl
 obtain⟨h9,r1,D9,K9⟩:=KW C (k:=16) b1 Gh D8 (by lia);have Q4:=K9.get _ _ (by lia) (by lia) gb;have Q5:=K9.get _ _ (by lia) (by lia) Lb;have Q6:=K9.get _ _ (by lia) (by lia) gt;obtain⟨Q7,r2,D10,Lc⟩:=KW C (k:=16) b2 KZ D9 (by lia);have Ld:=Lc.get _ _ (by lia) (by lia) Q4;have Le:=Lc.get _ _ (by lia) (by lia) Q5;have C6:=Lc.get _ _ (by lia) (by lia) Q6;obtain⟨h11,r3,D11,K11⟩:=KW C (k:=16) b1 Gh D10 (by lia);have Lf:=K11.get _ _ (by lia) (by lia) C6;have xr:exs (run F 29) (.«for» .seq (.lst (.cons (.cst (.int (0))) (.cons (.cst (.int (1))) (.cons (.cst (.int (0))) .nil)))) (.one 5) FL) [aB (.fz (ns.map .int)),aB (.ref 1),aB (.ref h3.n),aB (.ref h4.n),aB (.ref h5.n),aC] (h5.new (.lst [aG s1,aG s2]))=.ok (.nx [aB (.fz (ns.map .int)),aB (.ref 1),aB (.ref h3.n),aB (.ref h4.n),aB (.ref h5.n),aB (.int ((0:Nat):Int))]) h11:=by
  have ea:ev (run F 29) (.lst (.cons (.cst (.int (0))) (.cons (.cst (.int (1))) (.cons (.cst (.int (0))) .nil)))) [aB (.fz (ns.map .int)),aB (.ref 1),aB (.ref h3.n),aB (.ref h4.n),aB (.ref h5.n),aC] (h5.new (.lst [aG s1,aG s2]))=.ok (.ref (h5.n+1)) h8:=by rw[<-hh8];rfl
  rw[exs,ea,aD,show fuel=999996+1+1+1+1 from rfl];refine(uT (w:=.int 0) (pI gt) rfl (pM 0 B1 s1 h8 h9 gb Lb rfl rfl r1)).trans ?_;refine(uT (w:=.int 1) (pI Q6) rfl (pM 1 B2 s2 h9 Q7 Q4 Q5 rfl rfl r2)).trans ?_;refine(uT (w:=.int 0) (pI C6) rfl (pM 0 B1 s1 Q7 h11 Ld Le rfl rfl r3)).trans ?_;exact CT (pI Lf)
 have eb:exs (run F 29) FN.body [aB (.fz (ns.map .int)),aC,aC,aC,aC,aC] ⟨0,0,[]⟩=.ok (.rt (.bl true)) h11:=by refine(aT (bJ (h1:=h1) (x:=.ref 1) (sR (aE rfl) e1))).trans ?_;have Q8:=pB (cl:=run F 29) (a:=.call 132 (.cons (.var 1) .nil)) (b:=.call 132 (.cons (.var 1) .nil)) (ρ:=[aB (.fz (ns.map .int)),aB (.ref 1),aC,aC,aC,aC]) (h:=h1) (sR (aE rfl) e2) (sR (aE rfl) e3);rw[QX]at Q8;refine(aT (bJ Q8)).trans ?_;refine(aT (bJ QY)).trans ?_;refine(aT (bJ el4)).trans ?_;refine(aT xr).trans ?_;exact cQ (bS rfl)
 show yK (fin ⟨0,0,[]⟩ (exs (run F 29) FN.body [aB (.fz (ns.map .int)),aC,aC,aC,aC,aC] ⟨0,0,[]⟩))=true;rw[eb];obtain⟨h12,e12,_⟩:=JG (h:=⟨0,0,[]⟩) (w:=.bl true) (BA (BB F 29) _ _ ⟨0,0,[]⟩ _ _ eb);show yK (leave ⟨0,0,[]⟩ (.bl true) h11)=true;rw[e12];rfl
end
end RF
namespace HD
open PySem PySem.W PySem.Calls PyProof.Rows
noncomputable section
noncomputable def p:ai:=PySem.Challenge.pw_ballrockers_k19_after
noncomputable abbrev S(x:String):Str:=Str.ofString x
noncomputable abbrev U(x:String)(t:Tok):aa:=Value.str (S x) t
noncomputable abbrev R(a:ah):aa:=Value.ref a
noncomputable abbrev I(i:Int)(t:Tok):aa:=Value.int i t
noncomputable abbrev E(P:Params)(x:String)(t:Tok)(v:aa):DictEntry:=DictEntry.mk (PyData.keyHash P (S x)) (Value.str (S x) t) v
noncomputable abbrev N(o:Obj)(l r:BT):BT:=BT.node o l r
noncomputable abbrev Z:BT:=BT.nil
noncomputable abbrev L(o:Obj):BT:=BT.node o Z Z
noncomputable abbrev Y(c:String)(d:Data):Obj:=Obj.mk (Value.type c) aC d #[]
noncomputable abbrev X(d:Data):Obj:=Obj.mk Value.none aC d #[]
noncomputable def xE(l:List aq)(i:Nat):aq:=l.getD i (Stmt.Pass ⟨0,0,0,0⟩)
noncomputable def Q9:aq->List aq|.FunctionDef _ _ b _ _ _ _ _ _ _=>b|.ClassDef _ _ _ b _ _ _ _ _ _ _=>b|_=>[]
noncomputable def Ra:aq->Arguments|.FunctionDef _ a _ _ _ _ _ _ _ _=>a|_=>⟨[],[],aC,[],[],aC,[]⟩
noncomputable def Rb:aq->ay|.FunctionDef _ _ _ _ _ _ s _ _ _=>s|_=>p.main.scope
noncomputable def fb(i:Nat):List aq:=Q9 (xE p.main.body i)
noncomputable def fa(i:Nat):Arguments:=Ra (xE p.main.body i)
noncomputable def fs(i:Nat):ay:=Rb (xE p.main.body i)
noncomputable def cb(i j:Nat):List aq:=Q9 (xE (fb i) j)
noncomputable def ca(i j:Nat):Arguments:=Ra (xE (fb i) j)
noncomputable def cs(i j:Nat):ay:=Rb (xE (fb i) j)
noncomputable abbrev O:aa:=Value.none
noncomputable abbrev J(i:Int):aa:=Value.int i 0
noncomputable abbrev V(t:Tok):aa:=Value.str (S "/claim/cut.py") t
noncomputable abbrev A(l:Array aa):Data:=Data.fields l
noncomputable abbrev B(f:au):Data:=Data.func f
noncomputable abbrev G(x:String)(i:Nat)(g:ah)(c:List (Str×ah))(d k o m:aa)(n:Option ah)(cd ct:aa)(b:ah):au:=FuncData.mk (S x) (S x) (fa i) (FuncBody.stmts (fb i)) (fs i) g c d k o m n cd ct b
section
variable(P:Params)
noncomputable def N0:Nat:=5838
noncomputable def lo:List Str:=[S "fallen",S "heading_behind",S "come_down",S "come_out",S "MOST_COUNTED_BALLS"]
noncomputable def keep:List Nat:=[1,2,3,4,5,7,8,9,10,11,13,14,15,16,17,18,19,20,21,22,23,24,25,26,27,28,30,31,32,33,39,40,41,43,44,45,46,47,48,50,51,52,53,54,55,56,57,58,59,60,61,62,63,64,65,66,67,68,69,70,71,72]
noncomputable def life:Life:=(Life.mk [] [] [] 0 [] [] false #[] [] 0 false false false 0 [2000,10,10] false 0 true [] [] 0 false)
noncomputable def m0:Nat:=11
noncomputable def ann:Option aa:=(aB (R 6))
noncomputable def env:Env:={scope:=p.main.scope,locals:=mainNs,globals:=mainNs,cells:=[],code:=(R 13),frame:=aB 14}
noncomputable def bd:List aq:=behindTheImports p
noncomputable def cd:Code:=Code.body bd env
noncomputable def fr:List Frame:=[topFrame (Pos.mk 0 0 0 0)]
noncomputable abbrev qC(n:String)(t:Nat)(l k:Int)(r m:Nat):Obj:=Y "code" (A #[U n t,U n (t+1),V (t+2),J l,J k,J 0,J 0,J 3,R r,Value.bool true,J 181,R (r+1),O,R (r+2),R (r+3),R (r+4),J (Int.ofNat m),J l,V (m+1)])
noncomputable abbrev qD(n:String)(t:Nat)(l k:Int)(r m:Nat):Obj:=Y "code" (A #[U n t,U n (t+1),V (t+2),J l,J k,J 0,J 0,J 3,R r,Value.bool true,J 181,R (r+1),O,O,O,R (r+2),J (Int.ofNat m),J l,V (m+1)])
noncomputable def qU:Nat->List String->List aa|_,[]=>[]|t,x::r=>U x t::qU (t+1) r
noncomputable abbrev qT(t:Nat)(l:List String):Obj:=Y "tuple" (Data.seq (qU t l).toArray 0)
noncomputable abbrev qF(n:String)(i:Nat)(u:aa)(r:ah):Obj:=Y "function" (B (G n i 3 [] O O O u aC (R r) O 0))
noncomputable abbrev qG(n:String)(i:Nat):Obj:=X (B (G n i 0 [] O O O O aC O O 0))
noncomputable def qJ:List (Int×Nat)->List aa|[]=>[]|(a,b)::r=>J a::J 0::R b::qJ r
noncomputable def qO:List Obj->List Obj|x::_::r=>x::qO r|x=>x
noncomputable def qE:List Obj->List Obj|_::y::r=>y::qE r|_=>[]
noncomputable def qB:Nat->List Obj->BT|f+1,x::r=>N x (qB f (qO r)) (qB f (qE r))|_,_=>Z
 def a0:=(Y "tuple" (Data.seq #[] 0))
 def a1:=(X (A #[]))
 abbrev qN(n:String)(i t:Nat)(l k:Int)(r:Nat)(u:aa):List Obj:=[a0,a1,qG n i,qD n t l k r (t+3),qF n i u (r+3)]
 abbrev qM(n:String)(i t:Nat)(s:List String)(l k:Int)(r:Nat)(u:aa):List Obj:=[a0,a1,qT (t+3) s,a0,qG n i,qC n t l k r (t+3+s.length),qF n i u (r+5)]
 def a2:=(Y "code" (A #[(U "<module>" 182),(U "<module>" 183),(V 184),(J 1),(J 0),(J 0),(J 0),(J 0),(R 11),(Value.bool false),(J 181),(R 12),O,O,O,O,(J 185),(J 1),(V 186)]))
 def a3:=(Obj.mk (Value.type "frame") aC Data.plain #[(aB (R 13)),(aB (R 3)),(aB (R 3)),aC,(aB (U "__main__" 164)),aC,(aB (R 0))])
 def ha:az:=Heap.mk (Array.mk [(boot_o_0 P),(boot_o_1 P),(boot_o_2 P),(boot_o_3 P),(boot_o_4 P),(boot_o_5 P),(boot_o_6 P),(boot_o_7 P),(boot_o_8 P),(boot_o_9 P),(boot_o_10 P),a0,a1,a2,a3]) (Life.mk [] [] [] 0 [] [] false #[] [] 0 false false false 0 [2000,10,10] false 0 true [] [] 0 false)
noncomputable def sa(w:aj)(os:av):af:=⟨ha w.params,(Array.mk []),(Drawn.mk 0 0 0 0),187,os⟩
theorem uX{w:aj}{n:Nat}{s s':SharedT}{l:List aq}{pos pos':Pos}(h:PySem.W.Fast.tw10110043849684766642 PySem.W.Fast.tw14364793385576792824 p w m0 ann 1 n s (piecesOf l env cd pos fr)=aB (.next,s',cd,pos')) :
 segRun treeTable p w m0 ann 1 n s.abs (piecesOf l env cd pos fr)=aB (.next,s'.abs,cd,pos'):=
 segRun_of (by rw[PySem.W.Fast.te10110043849684766642,DV];exact h)
theorem C7{w:aj}{n:Nat}{s s':af}{pos:Pos}(h:PySem.W.Fast.tw15667345088766844465 PySem.W.Fast.tw14364793385576792824 p w m0 ann n s (topStub p)=aB (s',⟨PySem.W.Fast.tw11892475500146522536 PySem.W.Fast.tw14364793385576792824 cd,cd,pos,fr⟩)) :
 topGo treeTable p w m0 ann n s (topStub p)=aB (s',⟨denote treeTable cd,cd,pos,fr⟩):=by
 rw[PySem.W.Fast.te15667345088766844465,DV,PySem.W.Fast.te11892475500146522536];exact h
theorem zww{w:aj}{n:Nat}{s s':af}{pos pos':Pos}(h:PySem.W.Fast.tw14374325043358763698 PySem.W.Fast.tw14364793385576792824 p w m0 ann 1 n s (blockOf bd env cd pos fr)=aB (.next,s',cd,pos')) :
 segRun treeTable p w m0 ann 1 n s (blockOf bd env cd pos fr)=aB (.next,s',cd,pos'):=by
 rw[PySem.W.Fast.te14374325043358763698,DV];exact h
theorem C8{w:aj}{n:Nat}{s s':af}{pos:Pos}(h:PySem.W.Fast.tw14082659384304107361 PySem.W.Fast.tw14364793385576792824 p w m0 ann n s ⟨doneF .next,cd,pos,fr⟩=aB s') :
 topRun treeTable p w m0 ann n s ⟨doneF .next,cd,pos,fr⟩=aB s':=by
 rw[PySem.W.Fast.te14082659384304107361,DV];exact h
set_option maxHeartbeats 0 in
theorem pre(w:aj)(os:av):topGo treeTable p w m0 ann 12 ⟨boot_heap w.params,Array.mk [],boot_drawn,boot_toks,os⟩ (topStub p)=aB (sa w os,⟨denote treeTable cd,cd,(Pos.mk 0 0 0 0),fr⟩):=C7 (by kernel_rfl)
 def Rc:List Obj:=[(boot_o_0 P),(boot_o_1 P),(boot_o_2 P),(boot_o_3 P),(boot_o_4 P),(boot_o_5 P),(boot_o_6 P),(boot_o_7 P),(boot_o_8 P),(boot_o_9 P),(boot_o_10 P),a0,a1,a2,a3]
 def tb:=qB 20 (Rc P)
noncomputable def sb(w:aj)(os:av):SharedT:=⟨tb w.params,15,life,(Array.mk []),(Drawn.mk 0 0 0 0),187,os⟩
set_option maxHeartbeats 0 in
theorem block(w:aj)(os:av):segRun treeTable p w m0 ann 1 1 (sa w os) (blockOf bd env cd (Pos.mk 0 0 0 0) fr)=aB (.next,(sb w os).abs,cd,(Pos.mk 0 0 0 0)):=zww (by kernel_rfl)
 def Rf:=[(E P "__doc__" 166 O),(E P "__package__" 167 O),(E P "__loader__" 168 (Value.builtin "__main__.__loader__#opaque")),(E P "__spec__" 169 O),(E P "__annotations__" 170 (R 6)),(E P "__builtins__" 171 (R 4)),(E P "__file__" 173 (V 172)),(E P "__cached__" 174 O),(E P "BoardError" 206 (R 24)),(E P "NoBoard" 222 (R 37)),(E P "Fault" 249 (R 56)),(E P "NoStand" 265 (R 68)),(E P "NoNumber" 281 (R 80)),(E P "is_whole" 290 (R 89)),(E P "is_whole_within" 299 (R 96)),(E P "is_tuple_within" 308 (R 103)),(E P "are_wholes_within" 320 (R 110)),(E P "is_just" 326 (R 115)),(E P "MOST_COLUMNS" 330 (I 40 329)),(E P "MOST_ROWS" 332 (I 60 331)),(E P "MOST_GROUPS" 334 (I 8 333)),(E P "MOST_FEEDERS" 336 (I 4 335)),(E P "MOST_NAME" 338 (I 99 337)),(E P "look_at_board" 352 (R 122)),(E P "is_stand" 362 (R 129)),(E P "look_at_stand" 370 (R 136)),(E P "is_board_but_for_places" 382 (R 143)),(E P "are_rows" 391 (R 150)),(E P "are_doors" 401 (R 157))]
 def a4:=Y "dict" (Data.dict ((E P "__name__" 165 (U "ballrockers.boards" 327))::Rf P).toArray 30)
 def Rg:List (Int×Nat):=[(2,20),(4,33),(6,45),(11,64),(13,76),(16,88),(18,95),(20,102),(22,109),(29,114),(41,121),(49,128),(55,135),(58,142),(67,149),(74,156)]
 def a5:=X (A (qJ Rg).toArray)
 def a6:=(Y "tuple" (Data.seq #[(Value.type "ValueError")] 0))
 def a7:=(Y "builtin_function_or_method" (A #[(Value.builtin "type.__prepare__"),(Value.type "type")]))
 def a8:=(Y "dict" (Data.dict #[(E P "__module__" 196 (U "ballrockers.errors" 187)),(E P "__qualname__" 198 (U "BoardError" 197)),(E P "__firstlineno__" 200 (I 2 199)),(E P "__static_attributes__" 201 (R 22))] 4))
 def a9:=(Y "code" (A #[(U "BoardError" 191),(U "BoardError" 192),(V 193),(J 2),(J 0),(J 0),(J 0),(J 0),(R 18),(Value.bool false),(J 181),(R 19),O,O,O,O,(J 194),(J 2),(V 195)]))
 def Jk:=(Obj.mk (Value.type "frame") aC Data.plain #[(aB (R 20)),(aB (R 3)),(aB (R 17)),aC,(aB (U "ballrockers.errors" 187)),aC,(aB (R 0))])
 def a11:=(Y "dict" (Data.dict #[(E P "__module__" 196 (U "ballrockers.errors" 187)),(E P "__firstlineno__" 200 (I 2 199)),(E P "__static_attributes__" 201 (R 22)),(E P "__weakref__" 203 (R 25)),(E P "__doc__" 204 O)] 3))
 def qR(l:List Nat):Obj:=(Obj.mk (Value.type "type") aC (Data.cls (ClassData.mk (S "BoardError") [(Value.type "ValueError")] [(R 24),(Value.type "ValueError"),(Value.type "Exception"),(Value.type "BaseException"),(Value.type "object")] 23 (S "BoardError") true [] (l.map λi=>R i) false aC false)) #[(aB (R 15)),aC,(aB (U "BoardError" 189)),(aB (U "BoardError" 197)),(aB (Value.builtin "ValueError.__new__")),(aB (Value.bool true))])
 def a12:=qR [37,56,68,80]
 def a13:=(Y "getset_descriptor" (A #[(U "__weakref__" 202),(R 24),(Value.builtin "ExceptionGroup.__weakref__"),O]))
 def a14:=(Y "super" (A #[(R 24),(R 24),(R 24)]))
 def a15:=(Y "builtin_function_or_method" (A #[(Value.builtin "object.__init_subclass__"),(R 24)]))
 def Rh:=(Y "tuple" (Data.seq #[(R 24)] 0))
 def a24:=(Y "dict" (Data.dict #[(E P "__module__" 230 (U "ballrockers.errors" 187)),(E P "__qualname__" 232 (U "Fault" 231)),(E P "__firstlineno__" 234 (I 6 233)),(E P "__init__" 243 (R 53)),(E P "__static_attributes__" 246 (R 54))] 5))
 def a25:=(X (A #[(J 8),(J 4),(R 52)]))
 def a26:=(Y "code" (A #[(U "Fault" 225),(U "Fault" 226),(V 227),(J 6),(J 0),(J 0),(J 0),(J 0),(R 43),(Value.bool false),(J 181),(R 44),O,O,O,O,(J 228),(J 6),(V 229)]))
 def a27:=(Obj.mk (Value.type "frame") aC Data.plain #[(aB (R 45)),(aB (R 3)),(aB (R 42)),aC,(aB (U "ballrockers.errors" 187)),aC,(aB (R 0))])
 def a28:=qT 238 ["self","row","column"]
 def a29:=(X (B (FuncData.mk (S "__init__") (S "Fault.__init__") (ca 3 0) (FuncBody.stmts (cb 3 0)) (cs 3 0) 0 [] O O O O aC O O 0)))
 def a30:=(Y "code" (A #[(U "__init__" 235),(U "Fault.__init__" 236),(V 237),(J 8),(J 3),(J 0),(J 0),(J 3),(R 47),(Value.bool true),(J 181),(R 48),O,(R 49),(R 50),(R 51),(J 241),(J 8),(V 242)]))
 def a31:=(Y "function" (B (FuncData.mk (S "__init__") (S "Fault.__init__") (ca 3 0) (FuncBody.stmts (cb 3 0)) (cs 3 0) 3 [] O O O (U "ballrockers.errors" 187) aC (R 52) O 0)))
 def a32:=qT 244 ["column","row"]
 def a33:=(Y "dict" (Data.dict #[(E P "__module__" 230 (U "ballrockers.errors" 187)),(E P "__firstlineno__" 234 (I 6 233)),(E P "__init__" 243 (R 53)),(E P "__static_attributes__" 246 (R 54)),(E P "__doc__" 247 O)] 2))
 def a34:=(Obj.mk (Value.type "type") aC (Data.cls (ClassData.mk (S "Fault") [(R 24)] [(R 56),(R 24),(Value.type "ValueError"),(Value.type "Exception"),(Value.type "BaseException"),(Value.type "object")] 55 (S "Fault") true [] [] false aC false)) #[(aB (R 40)),aC,(aB (U "Fault" 223)),(aB (U "Fault" 231)),(aB (Value.builtin "ValueError.__new__")),(aB (Value.bool true))])
 def a35:=(Y "super" (A #[(R 56),(R 56),(R 56)]))
 def a36:=(Y "builtin_function_or_method" (A #[(Value.builtin "object.__init_subclass__"),(R 56)]))
 def pN:=U "ballrockers.whole" 282
 def iX:=U "ballrockers.boards" 327
 def qK(n:String)(t:Nat)(l:Int)(b:Nat):List Obj:=[Rh,a7,Y "dict" (Data.dict #[E P "__module__" (t+7) (U "ballrockers.errors" 187),E P "__qualname__" (t+9) (U n (t+8)),E P "__firstlineno__" (t+11) (I l (t+10)),E P "__static_attributes__" (t+12) (R (b+7))] 4),a0,a1,Y "code" (A #[U n (t+2),U n (t+3),V (t+4),J l,J 0,J 0,J 0,J 0,R (b+3),Value.bool false,J 181,R (b+4),O,O,O,O,J (Int.ofNat (t+5)),J l,V (t+6)]),Obj.mk (Value.type "frame") aC Data.plain #[aB (R (b+5)),aB (R 3),aB (R (b+2)),aC,aB (U "ballrockers.errors" 187),aC,aB (R 0)],a0,Y "dict" (Data.dict #[E P "__module__" (t+7) (U "ballrockers.errors" 187),E P "__firstlineno__" (t+11) (I l (t+10)),E P "__static_attributes__" (t+12) (R (b+7)),E P "__doc__" (t+13) O] 2),Obj.mk (Value.type "type") aC (Data.cls (ClassData.mk (S n) [R 24] [R (b+9),R 24,Value.type "ValueError",Value.type "Exception",Value.type "BaseException",Value.type "object"] (b+8) (S n) true [] [] false aC false)) #[aB (R b),aC,aB (U n t),aB (U n (t+8)),aB (Value.builtin "ValueError.__new__"),aB (Value.bool true)],Y "super" (A #[R (b+9),R (b+9),R (b+9)]),Y "builtin_function_or_method" (A #[Value.builtin "object.__init_subclass__",R (b+9)])]
 def Ri:List Obj:=((Rc P).set 3 (a4 P)).set 12 a5++([a6,a7,(a8 P),a0,a1,a9,Jk,a0,(a11 P),a12,a13,a14,a15]++(qK P "NoBoard" 207 4 28++([Rh,a7,(a24 P),a0,a25,a26,a27,a0,a1,a28,a0,a29,a30,a31,a32,(a33 P),a34,a35,a36]++(qK P "NoStand" 250 11 59++(qK P "NoNumber" 266 13 71++(qM "is_whole" 7 284 ["thing"] 16 1 83 pN++(qM "is_whole_within" 8 291 ["thing","low","high"] 18 3 90 pN++(qM "is_tuple_within" 9 300 ["thing","fewest","most"] 20 3 97 pN++(qM "are_wholes_within" 10 309 ["thing","fewest","most","low","high","number"] 22 5 104 pN++(qN "is_just" 11 321 29 2 111 pN++(qM "look_at_board" 18 339 ["board","width","groups","rows","row","places","column","piece"] 41 1 116 iX++(qM "is_stand" 19 353 ["board","thing","leans","feeder"] 49 2 123 iX++(qM "look_at_stand" 20 363 ["board","thing"] 55 2 130 iX++(qM "is_board_but_for_places" 21 371 ["board","width","groups","rows","feeders","doors"] 58 1 137 iX++(qM "are_rows" 22 383 ["thing","width","places"] 67 2 144 iX++(qM "are_doors" 23 392 ["thing","width","feeders","door"] 74 3 151 iX))))))))))))))))
 def t0:=qB 20 (Ri P)
noncomputable def s0(w:aj)(os:av):SharedT:=⟨t0 w.params,158,life,(Array.mk []),(Drawn.mk 0 0 0 0),402,os⟩
noncomputable def nv:List aq:=(bd.drop 0).take 24
set_option maxHeartbeats 0 in
theorem Lg(w:aj)(os:av):segRun treeTable p w m0 ann 1 1491 (sb w os).abs (piecesOf nv env cd (Pos.mk 0 0 0 0) fr)=aB (.next,(s0 w os).abs,cd,(Pos.mk 74 0 80 15)):=uX (by kernel_rfl)
 def Lh := (Rf P ++ [(E P "is_door" 411 (R 164)), (E P "is_feeder_or_none" 419 (R 171)), (E P "may_stand" 429 (R 178)), (E P "is_rocker" 439 (R 185)), (E P "are_leans" 447 (R 192)), (E P "LEFT" 452 (I (-1) 451)), (E P "STRAIGHT" 454 (I 0 453)), (E P "RIGHT" 456 (I 1 455)), (E P "NO_DOOR" 457 (R 193)), (E P "fallen" 474 (R 201)), (E P "heading_behind" 487 (R 209)), (E P "come_down" 501 (R 217)), (E P "come_out" 514 (R 225)), (E P "for_ever" 527 (R 232)), (E P "for_ever_holds" 541 (R 239)), (E P "stand_behind" 553 (R 246)), (E P "MOST_COUNTED_BALLS" 559 (I 100000000000000000000000000000000000000000000000000 558)), (E P "after" 568 (R 253)), (E P "after_holds" 579 (R 260)), (E P "is_countable" 586 (R 267)), (E P "reckoned" 592 (R 272)), (E P "times_of_stands" 604 (R 279)), (E P "_law_cell" 614 (R 286)), (E P "_law_mixed" 624 (R 293)), (E P "_law_deck" 630 (R 298)), (E P "_law_take" 639 (R 305)), (E P "_law_piece" 651 (R 312)), (E P "_law_row" 657 (R 317)), (E P "_law_door" 667 (R 324)), (E P "_law_board" 673 (R 329)), (E P "_law_leans" 679 (R 334)), (E P "_law_fall" 694 (R 341)), (E P "_law_number" 702 (R 348)), (E P "_law_step" 716 (R 355)), (E P "_law_ever" 729 (R 362)), (E P "_law_stand" 739 (R 369)), (E P "_law_same" 745 (R 374)), (E P "_law_any_board" 753 (R 381)), (E P "_law_after" 768 (R 388)), (E P "_law_pairs" 774 (R 393)), (E P "_law_ball_by_ball" 785 (R 400)), (E P "_law_numbers_for" 798 (R 407)), (E P "_law_right" 811 (R 414)), (E P "_law_near" 820 (R 421)), (E P "law" 826 (R 426))])
 def a94:=Y "dict" (Data.dict ((E P "__name__" 165 (U "law_ballrockers_k19_after" 605))::Lh P).toArray 75)
 def Li:List (Int×Nat):=Rg++[(81,163),(86,170),(88,177),(96,184),(101,191),(108,200),(124,208),(138,216),(142,224),(147,231),(156,238),(171,245),(179,252),(184,259),(188,266),(190,271),(200,278),(207,285),(211,292),(214,297),(216,304),(225,311),(235,316),(237,323),(243,328),(250,333),(252,340),(270,347),(272,354),(278,361),(290,368),(296,373),(304,380),(311,387),(322,392),(329,399),(335,406),(342,413),(354,420),(361,425)]
 def a95:=X (A (qJ Li).toArray)
 def Lj:=(Y "tuple" (Data.seq #[O,O] 0))
 def sZ:=(Y "tuple" (Data.seq #[O] 0))
 def Lk:=qT 461 ["board","leans","feeder","fault","column","columns","turned","leaning","heading","places","piece"]
 def Ll:=qG "fallen" 34
 def Lm:=qC "fallen" 458 108 4 195 472
 def Lo:=(Y "function" (B (G "fallen" 34 3 [] (R 194) O O (U "ballrockers.ways" 448) aC (R 200) O 0)))
 def Lp:=qT 478 ["piece","heading","leaning","fault","group","side","lean"]
 def Lq:=qG "heading_behind" 35
 def Lr:=qC "heading_behind" 475 124 4 203 485
 def Ls:=(Y "function" (B (G "heading_behind" 35 3 [] (R 202) O O (U "ballrockers.ways" 448) aC (R 208) O 0)))
 def Lu:=qT 491 ["board","leans","feeder","fault","columns","turned","behind","column"]
 def Lv:=qG "come_down" 36
 def Lx:=qC "come_down" 488 138 4 211 499
 def Ly:=(Y "function" (B (G "come_down" 36 3 [] (R 210) O O (U "ballrockers.ways" 448) aC (R 216) O 0)))
 def Lz:=qT 505 ["board","leans","feeder","fault","column","behind","door"]
 def LA:=qG "come_out" 37
 def LB:=qC "come_out" 502 142 4 219 512
 def LC:=(Y "function" (B (G "come_out" 37 3 [] (R 218) O O (U "ballrockers.ways" 448) aC (R 224) O 0)))
 def xF:=U "ballrockers.ever" 515
 def pO:=U "ballrockers.counts" 554
 def dw:=U "law_ballrockers_k19_after" 605
 def LD : List Obj := ((Ri P).set 3 (a94 P)).set 12 a95 ++ (qM "is_door" 24 402 ["thing", "feeders", "name", "call"] 81 2 158 iX ++ (qM "is_feeder_or_none" 25 412 ["thing", "feeders"] 86 2 165 iX ++ (qM "may_stand" 26 420 ["piece", "column", "width", "groups"] 88 4 172 iX ++ (qM "is_rocker" 27 430 ["thing", "groups", "group", "side"] 96 2 179 iX ++ (qM "are_leans" 28 440 ["thing", "groups"] 101 2 186 iX ++ ([Lj, sZ, a0, a1, Lk, a0, Ll, Lm, Lo, sZ, a0, a1, Lp, a0, Lq, Lr, Ls, sZ, a0, a1, Lu, a0, Lv, Lx, Ly, sZ, a0, a1, Lz, a0, LA, LB, LC] ++ (qM "for_ever" 39 517 ["board", "stand", "numbers", "coming", "back"] 147 2 226 xF ++ (qM "for_ever_holds" 40 528 ["board", "stand", "paper", "stands", "back", "numbers", "coming", "thing"] 156 3 233 xF ++ (qM "stand_behind" 41 542 ["board", "stand", "leans", "feeder", "door", "behind"] 171 2 240 xF ++ (qM "after" 44 560 ["board", "stand", "number"] 179 3 247 pO ++ (qM "after_holds" 45 569 ["board", "stand", "number", "paper", "thing"] 184 5 254 pO ++ (qM "is_countable" 46 580 ["thing"] 188 1 261 pO ++ (qN "reckoned" 47 587 190 3 268 pO ++ (qM "times_of_stands" 48 593 ["stands", "back", "number", "balls", "rounds", "rest"] 200 3 273 pO ++ (qM "_law_cell" 50 607 ["_law_script", "_law_k"] 207 2 280 dw ++ (qM "_law_mixed" 51 615 ["_law_script", "_law_k", "_law_many", "_law_number_here"] 211 3 287 dw ++ (qN "_law_deck" 52 625 214 1 294 dw ++ (qM "_law_take" 53 631 ["_law_deck_here", "_law_many", "_law_cell_here"] 216 2 299 dw ++ (qM "_law_piece" 54 640 ["_law_deck_here", "_law_column", "_law_width", "_law_groups", "_law_pick", "_law_piece_here"] 225 4 306 dw ++ (qN "_law_row" 55 652 235 3 313 dw ++ (qM "_law_door" 56 658 ["_law_deck_here", "_law_feeders", "_law_name", "_law_call"] 237 2 318 dw ++ (qN "_law_board" 57 668 243 4 325 dw ++ (qN "_law_leans" 58 674 250 2 330 dw) ++ (qM "_law_fall" 59 680 ["_law_board_here", "_law_leans_here", "_law_feeder", "_law_column", "_law_columns", "_law_turned", "_law_came", "_law_row_here", "_law_piece_here"] 252 3 335 dw ++ (qM "_law_number" 60 695 ["_law_found", "_law_due"] 270 2 342 dw ++ (qM "_law_step" 61 703 ["_law_board_here", "_law_stand_here", "_law_columns", "_law_turned", "_law_leans_here", "_law_is_stuck", "_law_name", "_law_call"] 272 2 349 dw ++ (qM "_law_ever" 62 717 ["_law_board_here", "_law_stand_here", "_law_stands", "_law_numbers", "_law_names", "_law_name", "_law_behind"] 278 2 356 dw ++ (qM "_law_stand" 63 730 ["_law_deck_here", "_law_board_here", "_law_leans_here", "_law_feeder"] 290 2 363 dw ++ (qN "_law_same" 64 740 296 2 370 dw ++ (qM "_law_any_board" 65 746 ["_law_deck_here", "_law_kind"] 304 1 375 dw ++ (qM "_law_after" 66 754 ["_law_ever_here", "_law_number_here", "_law_stands", "_law_names", "_law_back", "_law_balls", "_law_times", "_law_rest", "_law_parts"] 311 2 382 dw ++ (qN "_law_pairs" 67 769 322 1 389 dw ++ (qM "_law_ball_by_ball" 68 775 ["_law_board_here", "_law_stand_here", "_law_number_here", "_law_names", "_law_name"] 329 3 394 dw ++ (qM "_law_numbers_for" 69 786 ["_law_deck_here", "_law_ever_here", "_law_stands", "_law_names", "_law_back", "_law_some", "_law_many"] 335 2 401 dw ++ (qM "_law_right" 70 799 ["_law_deck_here", "_law_board_here", "_law_stand_here", "_law_ever_here", "_law_paper", "_law_number_here", "_law_due"] 342 3 408 dw ++ (qM "_law_near" 71 812 ["_law_deck_here", "_law_board_here", "_law_stand_here"] 354 1 415 dw ++ (qN "law" 72 821 361 1 422 dw))))))))))))))))))))))))))))))))))))
 def t1:=qB 20 (LD P)
noncomputable def s1(w:aj)(os:av):SharedT:=⟨t1 w.params,427,life,(Array.mk []),(Drawn.mk 0 0 0 0),827,os⟩
noncomputable def st1:List aq:=(bd.drop 24).take 49
set_option maxHeartbeats 0 in
theorem LF(w:aj)(os:av):segRun treeTable p w m0 ann 1 1367 (s0 w os).abs (piecesOf st1 env cd (Pos.mk 74 0 80 15) fr)=aB (.next,(s1 w os).abs,cd,(Pos.mk 361 0 369 15)):=uX (by kernel_rfl)
 def hz:az:=Heap.mk (Array.mk (LD P)) (Life.mk [] [] [] 0 [] [] false #[] [] 0 false false false 0 [2000,10,10] false 0 true [] [] 0 false)
noncomputable def sz(w:aj)(os:av):af:=⟨hz w.params,(Array.mk []),(Drawn.mk 0 0 0 0),827,os⟩
set_option maxHeartbeats 0 in
theorem fin(w:aj)(os:av):topRun treeTable p w m0 ann 2 (s1 w os).abs ⟨doneF .next,cd,(Pos.mk 361 0 369 15),fr⟩=aB (sz w os):=C8 (by kernel_rfl)
 def as:List ah:=[2,3,15,22,23,24,25,28,35,36,37,40,47,49,50,52,53,54,55,56,59,66,67,68,71,78,79,80,83,85,86,88,89,90,92,93,95,96,97,99,100,102,103,104,106,107,109,110,111,114,115,116,118,119,121,122,123,125,126,128,129,130,132,133,135,136,137,139,140,142,143,144,146,147,149,150,151,153,154,156,157,158,160,161,163,164,165,167,168,170,171,172,174,175,177,178,179,181,182,184,185,186,188,189,191,192,193,194,195,197,198,200,201,202,203,205,206,208,209,210,211,213,214,216,217,218,219,221,222,224,225,226,228,229,231,232,233,235,236,238,239,240,242,243,245,246,247,249,250,252,253,254,256,257,259,260,261,263,264,266,267,268,271,272,273,275,276,278,279,280,282,283,285,286,287,289,290,292,293,294,297,298,299,301,302,304,305,306,308,309,311,312,313,316,317,318,320,321,323,324,325,328,329,330,333,334,335,337,338,340,341,342,344,345,347,348,349,351,352,354,355,356,358,359,361,362,363,365,366,368,369,370,373,374,375,377,378,380,381,382,384,385,387,388,389,392,393,394,396,397,399,400,401,403,404,406,407,408,410,411,413,414,415,417,418,420,421,422,425,426]
 def K:Frag:=as.map λi=>(i,(LD P).getD i a0)
noncomputable def M0:Nat:=(12+ (1+ (1491+ (1367+2))))
theorem C9:bd=nv++(st1++([])):=by kernel_rfl
theorem rest(w:aj)(os:av):topRun treeTable p w m0 ann (1491+ (1367+ (2))) (sb w os).abs (restOf bd env cd (Pos.mk 0 0 0 0) fr)=aB (sz w os):=by rw[show restOf bd env cd (Pos.mk 0 0 0 0) fr=restOf (nv++(st1++([]))) env cd (Pos.mk 0 0 0 0) fr from ku (λb=>restOf b env cd (Pos.mk 0 0 0 0) fr) C9];exact(piece_app (Lg w os) (piece_app (LF w os) (piece_nil (fin w os))))
theorem run(w:aj)(os:av):topRun treeTable p w m0 ann M0 ⟨boot_heap w.params,Array.mk [],boot_drawn,boot_toks,os⟩ (topStub p)=aB (sz w os):=
 go_top (pre w os) (piece_block (block w os) (rest w os))
noncomputable def pP:Nat:=72
noncomputable def z1a:Pos:=(Pos.mk 361 0 369 15)
noncomputable def q:ai:={p with main:={p.main with body:=keep.map (xE p.main.body)}}
theorem Dc:∀P,as=(K P).map (·.1):=λ_=>by kernel_rfl
noncomputable def H:Hook:=kHook K as Dc
noncomputable def Xt(s:af):Bool:=xlAt q [] s&&recOk [] s
theorem z1b(w:aj)(os:av):(staticsOk (importedModules p.main.body) (boot_heap w.params) (hz w.params)&&namesBound p (hz w.params)&&gensDone (sz w os)&&laidKept (boot_heap w.params) (hz w.params))=true:=by rw[PySem.W.Fast.te5923862056798008813];kernel_rfl
theorem z1c(w:aj)(os:av):seen ((recsOf q).map (·.name)) (ownsOf q) [] {sz w os with gens:=#[]}=expectedOf q:=by rw[PySem.W.Fast.te5160383126252970620,PySem.W.R.mapR_eq,PySem.W.Fast.te3399658132070893891,PySem.W.Fast.te5991557255702980513];kernel_rfl
theorem Dd(w:aj)(os:av):(sz w os).heap.bltView=bltViewBooted:=by kernel_rfl
theorem z1d(w:aj)(os:av):((sz w os).heap.keysOk (looseW q lo) ((recsOf q).map (·.name)) ((litsOf q).map (·.1)) ((clssOf q (looseW q lo)).map (·.name))&& (sz w os).heap.accountedOkI (importedModules p.main.body)&& (sz w os).heap.isNs mainGlobals&& (sz w os).heap.isNs builtinsNs&&tablesOk q (sz w os).heap&&Xt (sz w os)&& (if true=true then(sz w os).gens.size==0 else !leftWithCleanup (sz w os).gens))=true:=by rw[PySem.W.Fast.te10880121769531294198,PySem.W.Fast.te821141287760084731,PySem.W.R.mapR_eq,PySem.W.Fast.te3399658132070893891,PySem.W.Fast.te7409074990110511671,PySem.W.Fast.te13664370479719496447,PySem.W.Fast.te14722251495701143533,PySem.W.Fast.te10994771534591457954,PySem.W.Fast.te5923862056798008813];kernel_rfl
theorem z1e(w:aj)(os:av):tabsOk q (sz w os)=true:=by rw[PySem.W.Fast.te479339242167458305];kernel_rfl
theorem De(w:aj)(os:av):pinSeenD q (drecsOf q) (sz w os)=pinGoodD (drecsOf q):=by rw[PySem.W.Fast.te16090120013241838585,PySem.W.Fast.te3247288618530077131];kernel_rfl
theorem Df(w:aj)(os:av):plainSeenE q (looseW q lo) (sz w os)=plainGoodE q (looseW q lo):=by rw[PySem.W.Fast.te2386780881361962483,PySem.W.Fast.te821141287760084731];kernel_rfl
theorem Dg(w:aj)(os:av):plainSeenD q lo (sz w os)=plainGoodD q lo:=by rw[PySem.W.Fast.te11698064438423848299];kernel_rfl
theorem z1f(w:aj)(os:av):wideSeen q (sz w os)=wideGood q:=by rw[PySem.W.Fast.te7317090234206586261];kernel_rfl
theorem Dh(w:aj)(os:av):clsSeenW q lo (sz w os)=clsGoodW q lo:=by rw[PySem.W.Fast.te7369524293546568484];kernel_rfl
theorem z1g(w:aj)(os:av):as.map (sz w os).heap.get?=(K w.params).map λp=>aB p.2:=by kernel_rfl
theorem left:LeftO p q lo Xt (Hook.obs H) (Hook.val H) N0 true:=
 LeftO.of_pieces (H₀:=boot_heap) (H₁:=hz) (boot_open (by kernel_rfl) (by kernel_rfl) (λs=>by kernel_rfl)) (λw=>by kernel_rfl) run (by kernel_rfl)
  (λw=>funext λos=>looks_pair (z1b w os) (looks_pair
    (looks_pair (z1c w os) (looks_pair (Dd w os) (looks_pair (z1d w os) (looks_pair (z1e w os) (looks_pair (De w os) (looks_pair (Df w os) (looks_pair (Dg w os) (looks_pair (z1f w os) (Dh w os)))))))))
    (z1g w os)))
noncomputable def df:DefRec:=⟨S "law",fa pP,fb pP,fs pP,z1a⟩
theorem Dj:defOf q (S "law")=aB (df,[]):=by kernel_rfl
theorem holds(l:OpenLaw)(hp:l.prog=p)(hn:l.name=S "law")(ok:l.wellSaid)(hch:(chainsOk q&&opensWell p&& (frees l.row.toRowW&&l.row.within.isEmpty)))(hb:l.row.toRowW.prog.bare)(hw:l.row.toRowW.promised)
 (hwr:(!l.row.writes||l.row.records.isEmpty)) (hk:p.theDef (S "law")=aB (df.params,df.body,df.scope)) (hkw:kwWritten? df.params.kwonlyargs df.params.kw_defaults=aB [])
 (call:WalkO q lo (XL q []) (Hook.says H) l.row.toRowW df [] λf vs=>PySem.call f vs):l.Holds:=
 holds_law ok λsaid=>PySem.W.holds_open (q:=q) (loose:=lo) (Xt:=Xt) (XP:=XL q []) (Yf:=Hook.obs H) (Ya:=Hook.val H) (YP:=Hook.says H) (N:=N0) (r:=l.row) (by have h:l.row.toRowW.prog=p:=hp;show LeftO l.row.toRowW.prog q lo Xt (Hook.obs H) (Hook.val H) N0 true;rw[h];exact left) (Hook.of H) (Hook.keeps H) (λs e=>xl_of s (Bool.and_eq_true_iff.mp e).1) XL.keeps
  (by show defOf q l.name=_;rw[hn];exact Dj) (by show l.prog.theDef l.name=_;rw[hp,hn];exact hk) hkw (λs e=>recFacts_of (Bool.and_eq_true_iff.mp e).2) hwr said (by have h:l.row.toRowW.prog=p:=hp;rw[h];exact hch) hb hw call
end
end
end HD
namespace RF
noncomputable def Rj : List PySem.Str := (["is_whole", "is_whole_within", "_law_cell", "_law_deck", "_law_mixed", "_law_take", "is_tuple_within", "are_wholes_within", "are_doors", "are_rows", "is_board_but_for_places", "is_door", "is_feeder_or_none", "is_rocker", "look_at_board", "may_stand"] ++ bf 1 "" ++ ["are_leans"] ++ bf 2 "" ++ ["_law_leans", "_law_piece"] ++ bf 1 "" ++ ["_law_door"] ++ bf 1 "" ++ ["_law_row", "_law_board", "is_stand"] ++ bf 1 "" ++ ["look_at_stand"] ++ bf 8 "" ++ ["_law_fall", "_law_number"] ++ bf 18 "" ++ ["is_countable", "is_just"] ++ bf 1 "" ++ ["times_of_stands"] ++ bf 30 "" ++ ["_law_same", "_law_stand"] ++ bf 5 "" ++ ["_law_any_board"] ++ bf 12 "" ++ ["_law_ever"] ++ bf 4 "" ++ ["_law_step"] ++ bf 14 "" ++ ["_law_near"] ++ bf 4 "" ++ ["_law_after"] ++ bf 26 "" ++ ["_law_pairs"] ++ bf 8 "" ++ ["heading_behind", "fallen", "come_down", "come_out"] ++ bf 5 "" ++ ["stand_behind"] ++ bf 1 "" ++ ["for_ever"] ++ bf 19 "" ++ ["for_ever_holds"] ++ bf 1 "" ++ ["reckoned"] ++ bf 1 "" ++ ["after"] ++ bf 48 "" ++ ["after_holds"] ++ bf 442 "" ++ ["_law_ball_by_ball", "_law_numbers_for", "_law_right", "law"]).map bH
noncomputable def Rl:List Fn:=[Fp,Jl,Fq,B6,Jm,rO,B8,B9,Jo,Jp,wo,rP,wu,rQ,wz,wA]++bf 1 cZ++[wD]++bf 2 cZ++[oV,oU]++bf 1 cZ++[wB]++bf 1 cZ++[rR,wC,rS]++bf 1 cZ++[wF]++bf 8 cZ++[oW,wG]++bf 18 cZ++[rW,mW]++bf 1 cZ++[oX]++bf 30 cZ++[mX,wH]++bf 5 cZ++[wI]++bf 12 cZ++[lK]++bf 4 cZ++[lM]++bf 14 cZ++[jr]++bf 4 cZ++[kh]++bf 26 cZ++[jt]++bf 8 cZ++[eL,kc,uv,lN]++bf 5 cZ++[lO]++bf 1 cZ++[lP]++bf 19 cZ++[lQ]++bf 1 cZ++[kg]++bf 1 cZ++[lR]++bf 48 cZ++[lS]++bf 442 cZ++[FI,FJ,Jv,FN]
theorem c19:GC λi=>Rl[i]?:=by repeat' (first|rfl|constructor)
end RF
set_option maxHeartbeats 0 in
theorem RF.LG(P:PySem.Params):RF.jq (HD.K P) RF.Rj 60 60=aB RF.Rl:=by kernel_rfl
open PySem PySem.W PyProof.Rows
set_option maxRecDepth 100000 in
set_option maxHeartbeats 0 in
theorem PySem.Challenge.cw_ballrockers_k19_after_holds : PySem.Challenge.rw_ballrockers_k19_after.Holds := by
 refine HD.holds _ rfl rfl RF.pa19 (by kernel_rfl) ⟨rfl,rfl,rfl,rfl,rfl,by decide +kernel⟩ ?hw rfl (by kernel_rfl) (by kernel_rfl) ?call
 (case hw=>w_witness2)
 refine RF.YV RF.Rj 60 60 30 703 rfl (by kernel_rfl) ⟨rfl,by decide,by decide⟩ (λw h Y=>PySem.W.kIn_of Y) (by kernel_rfl) (by decide +kernel) ?b ?c
 (case c=>intro w;kernel_rfl)
 (case b=>
   intro w ns hl
   exact RF.YU (RF.LG _) (RF.C5 RF.c19 hl))
