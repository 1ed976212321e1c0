/- A call that is preempted and made again: it comes to the same, or the caller or the way is no more. Nothing of the program's text. -/
import Derived.Test.YtdpjgflemddekaaDoorMKeepF
namespace Go.Proofs.YtdpjgflemddekaaDoor
def tailR (Y:RS)(root:Int)(c:Cl)(r:List Bool):Int×RS:=
 match findI Y.R.L Y.R.N (stillI Y.R.N root) c.at_ with
 | none=>(2,Y)
 | some (n,ix)=>match Y.R.L.findIdx? (isAt n ix) with
  | none=>if c.kind=1 then (3,Y) else (4,Y)
  | some p=>match Y.R.L[p]? with
   | none=>(0,Y)
   | some e=>if c.kind=1 then retypeB Y (stillI Y.R.N root) c p e r
    else if c.kind=5 then ((takeB Y p e r).1,(takeB Y p e r).2.1)
    else ((revokeR F1 Y n ix r).1,(revokeR F1 Y n ix r).2.1)
def longK (c:Cl):Prop:=c.kind=1\/c.kind=5\/c.kind=6
theorem doRB_eq {S:RS}{th:Int}{c:Cl}(bs:List Bool)(hk:longK c){t:Thr}(ht:S.R.T.find? (isBaseT th)=some t)(hs:t.state=1):
 doRB S th c bs=if (workG stepR doneR F0 S bs).2.2=false then (8,(workG stepR doneR F0 S bs).1) else tailR (workG stepR doneR F0 S bs).1 t.root c (workG stepR doneR F0 S bs).2.1:=by
 have hk':c.kind=1\/c.kind=5\/c.kind=6:=hk;unfold doRB;rw [ht];simp only;rw [if_neg (by simp [hs]),if_neg (by omega),if_pos hk'];rfl
theorem doRB_nil {S:RS}{th:Int}{c:Cl}(hk:longK c){t:Thr}(ht:S.R.T.find? (isBaseT th)=some t)(hs:t.state=1):doRB S th c []=tailR (WR S) t.root c []:=by
 have h2:(workG stepR doneR F0 S []).2=([],true):=work_nil _ _;rw [doRB_eq [] hk ht hs,h2];rfl
theorem doRB_none {S:RS}{th:Int}{c:Cl}(bs:List Bool)(ht:S.R.T.find? (isBaseT th)=none):doRB S th c bs=(1,S):=by
 unfold doRB;rw [ht]
theorem doRB_busy {S:RS}{th:Int}{c:Cl}(bs:List Bool){t:Thr}(ht:S.R.T.find? (isBaseT th)=some t)(hs:¬t.state=1):doRB S th c bs=(1,S):=by
 unfold doRB;rw [ht];simp only;rw [if_pos hs]
theorem tail_or {Y:RS}{K:KS}(h:Ag Y K)(root:Int)(c:Cl):
 (findK K.K root c.at_=none/\∀r,tailR Y root c r=(2,Y))\/
 ∃n ix,findK K.K root c.at_=some ⟨n,ix⟩/\findI Y.R.L Y.R.N root c.at_=some (n,ix)/\0<=ix/\stillI Y.R.N root=root/\
  ((K.K.held ⟨n,ix⟩=none/\∀r,tailR Y root c r=(if c.kind=1 then 3 else 4,Y))\/
    ∃p,∃hp:p<Y.R.L.length,Y.R.L.findIdx? (isAt n ix)=some p/\Y.R.L[p].slot=⟨n,ix⟩/\(∃k,K.K.held ⟨n,ix⟩=some k)/\
     ∀r,tailR Y root c r=if c.kind=1 then retypeB Y root c p Y.R.L[p] r else if c.kind=5 then ((takeB Y p Y.R.L[p] r).1,(takeB Y p Y.R.L[p] r).2.1) else ((revokeR F1 Y n ix r).1,(revokeR F1 Y n ix r).2.1)):=by
 have hC:=h.core;have hf:=hC.rel.find root c.at_;cases hfi:findI Y.R.L Y.R.N root c.at_ with
 | none=>
  rw [hfi] at hf;refine .inl ⟨hf,fun r=>?_⟩
  unfold tailR;rw [hC.still,hfi]
 | some q=>
  obtain ⟨n,ix⟩:=q;rw [hfi] at hf;simp only [Option.map_some,toSlot] at hf;have hst:=still_eq hfi;refine .inr ⟨n,ix,hf,rfl,(hC.found_ok hfi).1,hst,?_⟩;rcases hC.rel.idx n ix with ⟨e1,e2⟩ | ⟨p,hp,e1,e2,k,e3,e4⟩
  ·refine .inl ⟨e2,fun r=>?_⟩
   unfold tailR;rw [hC.still,hfi];simp only [e1];split<;>rfl
  ·refine .inr ⟨p,hp,e1,e2,⟨k,e3⟩,fun r=>?_⟩
   unfold tailR;rw [hC.still,hfi];simp only [e1,List.getElem?_eq_getElem hp,hst]
theorem len_F1 {Y:RS}{K:KS}(h:Ag Y K):Y.R.L.length<=F1:=by
 have:=h.core.len;rw [F1_eq];omega
theorem retype_same (Y:RS)(root:Int)(c:Cl)(p:Nat)(e:Ent)(r:List Bool)(h8:(retypeB Y root c p e r).1≠8):retypeB Y root c p e r=retypeB Y root c p e []:=by
 have hn:(resetM e.mark []).2.2=true:=by
  have:(resetM e.mark []).2=([],true):=work_nil _ _;rw [this]
 unfold retypeB at h8 ⊢;by_cases h1:e.ty≠1
 ·rw [if_pos h1,if_pos h1]
 ·rw [if_neg h1] at h8;rw [if_neg h1,if_neg h1];by_cases h2:okObj c=false
  ·rw [if_pos h2,if_pos h2]
  ·rw [if_neg h2] at h8;rw [if_neg h2,if_neg h2];cases hf:findI Y.R.L Y.R.N root c.to with
   | none=>rfl
   | some q=>
    obtain ⟨n,ix⟩:=q;rw [hf] at h8;simp only at h8 ⊢;by_cases h3:slotsOf Y.R.N n<ix+c.count
    ·rw [if_pos h3,if_pos h3]
    ·rw [if_neg h3] at h8;rw [if_neg h3,if_neg h3];by_cases h4:fullIn Y.R.L n ix c.count.toNat=true
     ·rw [if_pos h4,if_pos h4]
     ·rw [if_neg h4] at h8;rw [if_neg h4,if_neg h4];by_cases h5:endI Y.R.L p e.up=p+1
      ·rw [if_pos h5] at h8;rw [if_pos h5,if_pos h5];by_cases h6:(resetM e.mark r).2.2=true
       ·have:(resetM e.mark r).1=(resetM e.mark []).1:=work_true _ _ _ h6;rw [if_pos h6,if_pos hn,this]
       ·rw [if_neg h6] at h8;exact absurd rfl h8
      ·rw [if_neg h5,if_neg h5]
theorem tail_same {Y:RS}{K:KS}(h:Ag Y K)(root:Int)(c:Cl)(r:List Bool)(h8:(tailR Y root c r).1≠8):tailR Y root c r=tailR Y root c []:=by
 rcases tail_or h root c with ⟨_,e⟩ | ⟨n,ix,_,_,hi,_,⟨_,e⟩ | ⟨p,hp,_,_,_,e⟩⟩
 ·rw [e,e]
 ·rw [e,e]
 ·rw [e] at h8;rw [e,e];by_cases h1:c.kind=1
  ·rw [if_pos h1] at h8;rw [if_pos h1,if_pos h1];exact retype_same _ _ _ _ _ _ h8
  ·rw [if_neg h1] at h8;rw [if_neg h1,if_neg h1];by_cases h5:c.kind=5
   ·rw [if_pos h5] at h8;rw [if_pos h5,if_pos h5];rcases (takeB_res h hp r).1 with ⟨q1,q2⟩ | ⟨q1,_⟩
    ·rw [q1,q2,takeB_nil]
    ·exact absurd q1 h8
   ·rw [if_neg h5] at h8;rw [if_neg h5,if_neg h5];obtain ⟨z0,_,_,z3⟩:=revoke_res n ix hi F1 r h (len_F1 h);rcases z3 with ⟨q1,q2⟩ | ⟨q1,_⟩
    ·rw [q1,q2,z0]
    ·exact absurd q1 h8
theorem doRB_last {S:RS}{K:KS}(h:Ag S K)(th:Int){c:Cl}(hk:longK c)(bs:List Bool)(h8:(doRB S th c bs).1≠8):doRB S th c bs=doRB S th c []:=by
 cases ht:S.R.T.find? (isBaseT th) with
 | none=>rw [doRB_none bs ht,doRB_none [] ht]
 | some t=>
  by_cases hs:t.state=1
  ·rw [doRB_nil hk ht hs];rw [doRB_eq bs hk ht hs] at h8 ⊢;cases hw:(workG stepR doneR F0 S bs).2.2 with
   | false=>rw [if_pos hw] at h8;exact absurd rfl h8
   | true=>
    rw [hw,if_neg (by decide)] at h8;rw [if_neg (by decide)];have hY:(workG stepR doneR F0 S bs).1=WR S:=work_true _ _ _ hw;rw [hY] at h8 ⊢;exact tail_same h.wr t.root c _ h8
  ·rw [doRB_busy bs ht hs,doRB_busy [] ht hs]
def markR (th:Int)(c:Cl)(S:RS):Nat:=
 match S.R.T.find? (isBaseT th) with
 | none=>0
 | some t=>match findI S.R.L S.R.N t.root c.at_ with
  | none=>0
  | some (n,ix)=>match S.R.L.findIdx? (isAt n ix) with
   | none=>0
   | some p=>match S.R.L[p]? with
    | none=>0
    | some e=>((e.mark+15) / 16).toNat
def potR (th:Int)(c:Cl)(S:RS):Nat:=if c.kind=1 then (if S.D=[] then markR th c S else 64+mu S) else mu S
theorem Ag.mark {S:RS}{K:KS}(h:Ag S K){e:Ent}(he:e∈S.R.L):0<=e.mark/\e.mark<=1024:=by
 obtain ⟨k,hk,ht⟩:=h.core.rel.cap e he;have hm:k.mark=e.mark:=by
  have:=congrArg (fun x=>x.2.2.2.2.2) ht;have h2:k.told.2.2.2.2.2=k.mark:=by cases k<;>rfl
  have h3:e.told.2.2.2.2.2=e.mark:=rfl;rw [<- h2,<- h3];exact this
 obtain ⟨_,_,h2,_,h4,h5⟩:=h.core.cap _ _ hk;have:pw k.bits.toNat<=pw 10:=pw_mono (by omega);have e10:pw 10=1024:=by decide
 omega
theorem Ag.markR_le {S:RS}{K:KS}(h:Ag S K)(th:Int)(c:Cl):markR th c S<=64:=by
 unfold markR;split
 ·omega
 ·split
  ·omega
  ·split
   ·omega
   ·split
    ·omega
    ·rename_i e he;have:=h.mark (List.mem_of_getElem? he);omega
theorem Ag.pot_le {S:RS}{K:KS}(h:Ag S K)(th:Int)(c:Cl):potR th c S<=64+mu S:=by
 have:=h.markR_le th c;unfold potR;split
 ·split<;>omega
 ·omega
def Good (th:Int)(c:Cl)(S S':RS):Prop:=
 (doRB S' th c []).1=1\/(doRB S' th c []).1=2\/((doRB S' th c []).2=(doRB S th c []).2/\((doRB S' th c []).1=(doRB S th c []).1\/(c.kind=5/\(doRB S' th c []).1=4/\(doRB S th c []).1=0)))
theorem Good.refl (th:Int)(c:Cl)(S:RS):Good th c S S:=.inr (.inr ⟨rfl,.inl rfl⟩)
theorem Good.trans {th:Int}{c:Cl}{S S1 S2:RS}(h:Good th c S S1)(g:Good th c S1 S2):Good th c S S2:=by
 unfold Good at *
 rcases g with g | g | ⟨g1,g2⟩
 ·exact .inl g
 ·exact .inr (.inl g)
 ·rcases h with h | h | ⟨h1,h2⟩
  ·rcases g2 with g2 | ⟨_,_,g3⟩
   ·exact .inl (g2.trans h)
   ·rw [h] at g3;exact absurd g3 (by decide)
  ·rcases g2 with g2 | ⟨_,_,g3⟩
   ·exact .inr (.inl (g2.trans h))
   ·rw [h] at g3;exact absurd g3 (by decide)
  ·refine .inr (.inr ⟨g1.trans h1,?_⟩);rcases g2 with g2 | ⟨k5,g2,g3⟩
   ·rcases h2 with h2 | ⟨k5,h2,h3⟩
    ·exact .inl (g2.trans h2)
    ·exact .inr ⟨k5,g2.trans h2,h3⟩
   ·rcases h2 with h2 | ⟨_,h2,_⟩
    ·exact .inr ⟨k5,g2,h2.symm.trans g3⟩
    ·rw [g3] at h2;exact absurd h2 (by decide)
theorem again5 {Y:RS}{K:KS}(h:Ag Y K)(root:Int)(c:Cl)(h1:¬c.kind=1){n ix:Int}(hf:findK K.K root c.at_=some ⟨n,ix⟩){p:Nat}(hp:p<Y.R.L.length)(hs:Y.R.L[p].slot=⟨n,ix⟩)(r:List Bool)(h8:(takeB Y p Y.R.L[p] r).1=8):
 (tailR (WR (takeB Y p Y.R.L[p] r).2.1) root c []).1=2\/tailR (WR (takeB Y p Y.R.L[p] r).2.1) root c []=(4,WR (takeR Y p Y.R.L[p])):=by
 obtain ⟨_,_,g3,_,_⟩:=h.takeB hp r;have hA:=g3.wr;rw [hs] at hA;have hl1:Less (takeK K ⟨n,ix⟩) (takeBK K ⟨n,ix⟩ r).2.1:=by
  unfold takeBK;split
  ·exact Less.refl _
  ·exact workG_less _ _ _
 have hl2:=hl1.trans (workG_less F0 (takeBK K ⟨n,ix⟩ r).2.1 []);have hl3:=(takeBK_less K ⟨n,ix⟩ r).trans (workG_less F0 (takeBK K ⟨n,ix⟩ r).2.1 []);have hn3:=(nl_takeB K ⟨n,ix⟩ r).trans (nl_work F0 (takeBK K ⟨n,ix⟩ r).2.1 []);have hWR:WR (takeB Y p Y.R.L[p] r).2.1=WR (takeR Y p Y.R.L[p]):=by
  rcases (takeB_res h hp r).1 with ⟨q1,_⟩ | ⟨_,q2⟩
  ·rw [q1] at h8;exact absurd h8 (by decide)
  ·exact q2
 generalize (workG stepK doneK F0 (takeBK K ⟨n,ix⟩ r).2.1 []).1=Z at *
 rcases tail_or hA root c with ⟨_,e⟩ | ⟨n',ix',hf',_,_,_,⟨_,e⟩ | ⟨p',_,_,_,⟨k,hk⟩,_⟩⟩
 ·exact .inl (by rw [e])
 ·refine .inr ?_;rw [e,if_neg h1,hWR]
 ·have:=find_less hl3 hn3 hf';rw [hf] at this;cases this
  have:=hl2 _ _ hk;exfalso
  cases hc:K.K.held ⟨n,ix⟩ with
  | none=>rw [takeK_none hc,hc] at this;cases this
  | some c0=>rw [(takeK_st hc).2,upd_same] at this;cases this
theorem again6 {Y:RS}{K:KS}(h:Ag Y K)(root:Int)(c:Cl)(h1:¬c.kind=1)(h5:¬c.kind=5){n ix:Int}(hi:0<=ix)(hf:findK K.K root c.at_=some ⟨n,ix⟩){k0:KCap}(hh:K.K.held ⟨n,ix⟩=some k0)(r:List Bool)(h8:(revokeR F1 Y n ix r).1=8):
 (tailR (WR (revokeR F1 Y n ix r).2.1) root c []).1=2\/tailR (WR (revokeR F1 Y n ix r).2.1) root c []=((revokeR F1 Y n ix []).1,(revokeR F1 Y n ix []).2.1):=by
 have g3:=(Ag.revoke F1 n ix r h hi).2.1;have hA:=g3.wr;have hcut:Cut ⟨n,ix⟩ K (workG stepK doneK F0 (revokeK F1 K ⟨n,ix⟩ r).2.1 []).1:=(cut_revokeB ⟨n,ix⟩ hi F1 r h).trans (cut_work _ F0 g3 []);have hn3:=(nl_revoke F1 K ⟨n,ix⟩ r).trans (nl_work F0 (revokeK F1 K ⟨n,ix⟩ r).2.1 []);have hres:revokeR F1 (WR (revokeR F1 Y n ix r).2.1) n ix []=revokeR F1 Y n ix []:=by
  obtain ⟨_,_,_,z3⟩:=revoke_res n ix hi F1 r h (len_F1 h);rcases z3 with ⟨q1,_⟩ | ⟨_,_,q2⟩
  ·rw [q1] at h8;exact absurd h8 (by decide)
  ·exact q2
 generalize (workG stepK doneK F0 (revokeK F1 K ⟨n,ix⟩ r).2.1 []).1=Z at *
 rcases tail_or hA root c with ⟨_,e⟩ | ⟨n',ix',hf',_,_,_,⟨hno,e⟩ | ⟨p',_,_,_,_,e⟩⟩
 ·exact .inl (by rw [e])
 ·have he:=find_less hcut.less hn3 hf';rw [hf] at he;cases he
  exfalso
  rcases hcut.gone _ _ hh hno with hu | hu
  ·exact h.up_ne hh hu
  ·exact hA.nodeThere (s:=⟨n,ix⟩) (findKs_ok hf') hu
 ·have he:=find_less hcut.less hn3 hf';rw [hf] at he;cases he
  refine .inr ?_;rw [e,if_neg h1,if_neg h5,hres]
theorem again1 {Y:RS}{K:KS}(h:Ag Y K)(root:Int)(c:Cl)(h1:c.kind=1){n ix:Int}(hf:findI Y.R.L Y.R.N root c.at_=some (n,ix))(hst:stillI Y.R.N root=root){p:Nat}(hp:p<Y.R.L.length)(hidx:Y.R.L.findIdx? (isAt n ix)=some p)(r:List Bool)(h8:(retypeB Y root c p Y.R.L[p] r).1=8)(hc8:∀S' e' n' ix',(carveS S' root c p e' n' ix').1≠8):
 ∃m',(retypeB Y root c p Y.R.L[p] r).2=resetS Y p Y.R.L[p] m'/\(m'+15) / 16<(Y.R.L[p].mark+15) / 16/\0<=m'/\tailR (resetS Y p Y.R.L[p] m') root c []=retypeB Y root c p Y.R.L[p] []:=by
 have hm:=h.mark (List.getElem_mem hp);have hL:Y.R.L[p]?=some Y.R.L[p]:=List.getElem?_eq_getElem hp;generalize he:Y.R.L[p]=e at *
 have hn:∀m,(resetM m []).2.2=true:=by
  intro m;have:(resetM m []).2=([],true):=work_nil _ _;rw [this]
 have key:∀m',tailR (resetS Y p e m') root c []=retypeB (resetS Y p e m') root c p {e with mark:=m'} []:=by
  intro m';unfold tailR resetS;simp only;rw [findI_set (e':={e with mark:=m'}) hL rfl rfl rfl rfl,hst,hf];simp only;rw [findIdx_set Y.R.L p e {e with mark:=m'} hL rfl rfl,hidx];simp only [List.getElem?_set_self hp,if_pos h1]
 unfold retypeB at h8 ⊢;by_cases c1:e.ty≠1
 ·rw [if_pos c1] at h8;exact absurd (show (3:Int)=8 from h8) (by decide)
 ·rw [if_neg c1] at h8 ⊢;by_cases c2:okObj c=false
  ·rw [if_pos c2] at h8;exact absurd (show (7:Int)=8 from h8) (by decide)
  ·rw [if_neg c2] at h8 ⊢;cases hfi:findI Y.R.L Y.R.N root c.to with
   | none=>rw [hfi] at h8;exact absurd (show (2:Int)=8 from h8) (by decide)
   | some q=>
    obtain ⟨n2,ix2⟩:=q;rw [hfi] at h8;simp only at h8 ⊢;by_cases c3:slotsOf Y.R.N n2<ix2+c.count
    ·rw [if_pos c3] at h8;exact absurd (show (2:Int)=8 from h8) (by decide)
    ·rw [if_neg c3] at h8 ⊢;by_cases c4:fullIn Y.R.L n2 ix2 c.count.toNat=true
     ·rw [if_pos c4] at h8;exact absurd (show (4:Int)=8 from h8) (by decide)
     ·rw [if_neg c4] at h8 ⊢;by_cases c5:endI Y.R.L p e.up=p+1
      ·rw [if_pos c5] at h8 ⊢;by_cases c6:(resetM e.mark r).2.2=true
       ·rw [if_pos c6] at h8;exact absurd h8 (hc8 _ _ _ _)
       ·rw [if_neg c6];obtain ⟨q1,q2,q3,q4⟩:=reset_pre e.mark r hm.1 (by omega) (by simpa using c6);refine ⟨_,rfl,q2,q3,?_⟩;rw [if_neg c3,if_neg c4,if_pos c5,if_pos (hn _),key];have r1:=(reset_range 100 (resetM e.mark r).1 [] q3).2;have r1:(resetM (resetM e.mark r).1 []).1<=(resetM e.mark r).1:=r1;have htwo:=reset_two Y p e (resetM e.mark r).1 (resetM (resetM e.mark r).1 []).1 r1 q4;unfold retypeB;simp only;rw [if_neg c1,if_neg c2];have hfi2:findI (resetS Y p e (resetM e.mark r).1).R.L (resetS Y p e (resetM e.mark r).1).R.N root c.to=some (n2,ix2):=by
         show findI (Y.R.L.set p _) Y.R.N root c.to=_;rw [findI_set (e':={e with mark:=(resetM e.mark r).1}) hL rfl rfl rfl rfl,hfi]
        have hfu:fullIn (resetS Y p e (resetM e.mark r).1).R.L n2 ix2 c.count.toNat=fullIn Y.R.L n2 ix2 c.count.toNat:=full_set (e':={e with mark:=(resetM e.mark r).1}) hL rfl rfl n2 ix2 _;have hen:endI (resetS Y p e (resetM e.mark r).1).R.L p e.up=endI Y.R.L p e.up:=endI_set Y.R.L p _ e.up;have hsl:(resetS Y p e (resetM e.mark r).1).R.N=Y.R.N:=rfl;rw [hfi2];simp only;rw [hsl,hfu,hen,if_neg c3,if_neg c4,if_pos c5,if_pos (hn _),htwo,q1,if_neg c1,if_neg c2]
      ·rw [if_neg c5] at h8;exact absurd h8 (hc8 _ _ _ _)
theorem carve_no8 (S:RS)(root:Int)(c:Cl)(p:Nat)(e:Ent)(n ix:Int):(carveS S root c p e n ix).1≠8:=by
 unfold carveS carveR;split<;>simp
theorem D_or {S S':RS}{K K':KS}(h:Ag S K)(h':Ag S' K')(th:Int){c:Cl}(hk:longK c)(htl:TL S.R.T S'.R.T){t:Thr}(ht:S.R.T.find? (isBaseT th)=some t):
 (doRB S' th c []).1=1\/(doRB S' th c []).1=2\/doRB S' th c []=tailR (WR S') t.root c []:=by
 cases ht':S'.R.T.find? (isBaseT th) with
 | none=>rw [doRB_none [] ht'];exact .inl rfl
 | some t'=>
  by_cases hs:t'.state=1
  ·rw [doRB_nil hk ht' hs];rcases htl.find h.core.td ht' ht with e | e
   ·rw [e];exact .inr (.inr rfl)
   ·refine .inr (.inl ?_);rw [e];unfold tailR;rw [h'.wr.noRoot]
  ·rw [doRB_busy [] ht' hs];exact .inl rfl
theorem Good.of_tail {S S':RS}{th:Int}{c:Cl}{t:Thr}(hD:doRB S th c []=tailR (WR S) t.root c [])
 (ho:(doRB S' th c []).1=1\/(doRB S' th c []).1=2\/doRB S' th c []=tailR (WR S') t.root c [])
 (hg:(tailR (WR S') t.root c []).1=2\/((tailR (WR S') t.root c []).2=(tailR (WR S) t.root c []).2/\((tailR (WR S') t.root c []).1=(tailR (WR S) t.root c []).1\/(c.kind=5/\(tailR (WR S') t.root c []).1=4/\(tailR (WR S) t.root c []).1=0)))):Good th c S S':=by
 unfold Good;rcases ho with e | e | e
 ·exact .inl e
 ·exact .inr (.inl e)
 ·rw [e,hD];rcases hg with g | g
  ·exact .inr (.inl g)
  ·exact .inr (.inr g)
theorem again {S:RS}{K:KS}(h:Ag S K)(th:Int){c:Cl}(hk:longK c)(bs:List Bool)(h8:(doRB S th c bs).1=8):
 Good th c S (doRB S th c bs).2/\potR th c (doRB S th c bs).2+1<=potR th c S:=by
 have hk':c.kind=1\/c.kind=5\/c.kind=6:=hk;cases ht:S.R.T.find? (isBaseT th) with
 | none=>rw [doRB_none bs ht] at h8;exact absurd (show (1:Int)=8 from h8) (by decide)
 | some t=>
  by_cases hs:t.state=1
  ·have hA':=(do_agree h th c bs (by omega)).2.1;have hDS:=doRB_nil hk ht hs;rw [doRB_eq bs hk ht hs] at h8 hA' ⊢;cases hw:(workG stepR doneR F0 S bs).2.2 with
   | false=>
    rw [hw,if_pos rfl] at hA';rw [if_pos rfl];simp only at hA' ⊢;have hWR:=h.wr_pre bs hw;have hmu:=(mu_work2 F0 bs h).2 hw;refine ⟨Good.of_tail hDS (D_or h hA' th hk (tl_work F0 S bs) ht) (.inr ⟨by rw [hWR],.inl (by rw [hWR])⟩),?_⟩;have hne:¬S.D=[]:=by
     intro e;rw [work_stop F0 bs (doneR_iff.2 e)] at hw;cases hw
    have hp:=hA'.pot_le th c;generalize (workG stepR doneR F0 S bs).1=S1 at *
    unfold potR at hp ⊢;by_cases k1:c.kind=1
    ·rw [if_pos k1] at hp ⊢;rw [if_pos k1,if_neg hne];omega
    ·rw [if_neg k1,if_neg k1];exact hmu
   | true=>
    have hY:(workG stepR doneR F0 S bs).1=WR S:=work_true _ _ _ hw;rw [hw,if_neg (by decide),hY] at h8 hA';rw [if_neg (by decide),hY];have hmuY:mu (WR S)<=mu S:=(mu_work2 F0 [] h).1;have hTY:TL S.R.T (WR S).R.T:=tl_work F0 S [];have hYA:=h.wr;have hYD:=h.wrD;generalize (workG stepR doneR F0 S bs).2.1=r at *
    generalize (workG stepK doneK F0 K []).1=YK at *
    rcases tail_or hYA t.root c with ⟨_,e⟩ | ⟨n,ix,hf,hfi,hi,hst,⟨_,e⟩ | ⟨p,hp,hidx,hsl,⟨k0,hh⟩,e⟩⟩
    ·rw [e] at h8;exact absurd (show (2:Int)=8 from h8) (by decide)
    ·rw [e] at h8;simp only at h8;split at h8<;>exact absurd h8 (by decide)
    ·have e0:=e [];rw [e r] at h8 hA' ⊢;by_cases k1:c.kind=1
     ·rw [if_pos k1] at h8 hA' ⊢;rw [if_pos k1] at e0;obtain ⟨m',g1,g2,g3,g4⟩:=again1 hYA t.root c k1 hfi hst hp hidx r h8 (fun S' e' n' ix'=>carve_no8 S' t.root c p e' n' ix');rw [g1] at hA' ⊢;have hRD:(resetS (WR S) p (WR S).R.L[p] m').D=[]:=hYD;have hW2:WR (resetS (WR S) p (WR S).R.L[p] m')=resetS (WR S) p (WR S).R.L[p] m':=WR_done hRD;refine ⟨Good.of_tail hDS (D_or h hA' th hk hTY ht) (.inr ?_),?_⟩
      ·rw [hW2,g4,e0];exact ⟨rfl,.inl rfl⟩
      ·have hle:=hA'.markR_le th c;unfold potR;rw [if_pos k1,if_pos k1,if_pos hRD];by_cases hSD:S.D=[]
       ·rw [if_pos hSD];have hWS:WR S=S:=WR_done hSD;have hL:(WR S).R.L[p]?=some (WR S).R.L[p]:=List.getElem?_eq_getElem hp;have e1:markR th c (resetS (WR S) p (WR S).R.L[p] m')=((m'+15) / 16).toNat:=by
         have hT:(resetS (WR S) p (WR S).R.L[p] m').R.T.find? (isBaseT th)=some t:=by
          show (WR S).R.T.find? (isBaseT th)=some t;rw [hWS];exact ht
         unfold markR;rw [hT];simp only;have f1:findI (resetS (WR S) p (WR S).R.L[p] m').R.L (resetS (WR S) p (WR S).R.L[p] m').R.N t.root c.at_=some (n,ix):=by
          show findI ((WR S).R.L.set p _) (WR S).R.N t.root c.at_=_;rw [findI_set (e':={(WR S).R.L[p] with mark:=m'}) hL rfl rfl rfl rfl,hfi]
         have f2:(resetS (WR S) p (WR S).R.L[p] m').R.L.findIdx? (isAt n ix)=some p:=by
          show ((WR S).R.L.set p _).findIdx? (isAt n ix)=_;rw [findIdx_set (WR S).R.L p (WR S).R.L[p] {(WR S).R.L[p] with mark:=m'} hL rfl rfl,hidx]
         have f3:(resetS (WR S) p (WR S).R.L[p] m').R.L[p]?=some {(WR S).R.L[p] with mark:=m'}:=by
          show ((WR S).R.L.set p _)[p]?=_;rw [List.getElem?_set_self hp]
         rw [f1];simp only;rw [f2];simp only;rw [f3]
        have e2:markR th c (WR S)=(((WR S).R.L[p].mark+15) / 16).toNat:=by
         have hT:(WR S).R.T.find? (isBaseT th)=some t:=by rw [hWS];exact ht
         unfold markR;rw [hT];simp only;rw [hfi];simp only;rw [hidx];simp only;rw [hL]
        have e4:markR th c S=markR th c (WR S):=by rw [hWS]
        rw [e1,e4,e2];omega
       ·rw [if_neg hSD];have:1<=mu S:=by
         obtain ⟨d,D,hd⟩:=List.exists_cons_of_ne_nil hSD;unfold mu muD;rw [hd];simp only [List.map_cons,List.sum_cons];omega
        omega
     ·rw [if_neg k1] at h8 hA' ⊢;rw [if_neg k1] at e0;by_cases k5:c.kind=5
      ·rw [if_pos k5] at h8 hA' ⊢;rw [if_pos k5] at e0;simp only at h8 hA' ⊢;have hmu:=(takeB_res hYA hp r).2;refine ⟨Good.of_tail hDS (D_or h hA' th hk (hTY.trans (tl_takeB _ _ _ _)) ht) ?_,by unfold potR;rw [if_neg k1,if_neg k1];omega⟩;rcases again5 hYA t.root c k1 hf hp hsl r h8 with g | g
       ·exact .inl g
       ·refine .inr ?_;rw [g,e0,takeB_nil];exact ⟨rfl,.inr ⟨k5,rfl,rfl⟩⟩
      ·rw [if_neg k5] at h8 hA' ⊢;rw [if_neg k5] at e0;simp only at h8 hA' ⊢;have hmu:mu (revokeR F1 (WR S) n ix r).2.1+1<=mu (WR S):=by
        obtain ⟨_,_,_,z3⟩:=revoke_res n ix hi F1 r hYA (len_F1 hYA);rcases z3 with ⟨q1,_⟩ | ⟨_,q2,_⟩
        ·rw [q1] at h8;exact absurd h8 (by decide)
        ·exact q2
       refine ⟨Good.of_tail hDS (D_or h hA' th hk (hTY.trans (tl_revoke n ix F1 _ _)) ht) ?_,by unfold potR;rw [if_neg k1,if_neg k1];omega⟩;rcases again6 hYA t.root c k1 k5 hi hf hh r h8 with g | g
       ·exact .inl g
       ·refine .inr ?_;rw [g,e0];exact ⟨rfl,.inl rfl⟩
  ·rw [doRB_busy bs ht hs] at h8;exact absurd (show (1:Int)=8 from h8) (by decide)
structure Rsm (th:Int)(c:Cl)(S0 S:RS)(n:Nat):Prop where
 good:Good th c S0 S
 pot:n+potR th c S<=64+mu S0
theorem Rsm.start {S:RS}{K:KS}(h:Ag S K)(th:Int)(c:Cl):Rsm th c S S 0:=⟨Good.refl th c S,by have:=h.pot_le th c;omega⟩
theorem Rsm.next {S0 S:RS}{K:KS}{th:Int}{c:Cl}{n:Nat}(hr:Rsm th c S0 S n)(h:Ag S K)(hk:longK c)(bs:List Bool)(h8:(doRB S th c bs).1=8):Rsm th c S0 (doRB S th c bs).2 (n+1):=by
 obtain ⟨g1,g2⟩:=again h th hk bs h8;have:=hr.pot;exact ⟨hr.good.trans g1,by omega⟩
theorem Rsm.last {S0 S:RS}{K:KS}{th:Int}{c:Cl}{n:Nat}(hr:Rsm th c S0 S n)(h:Ag S K)(hk:longK c)(bs:List Bool)(h8:(doRB S th c bs).1≠8):
 (doRB S th c bs).1=1\/(doRB S th c bs).1=2\/((doRB S th c bs).2=(doRB S0 th c []).2/\((doRB S th c bs).1=(doRB S0 th c []).1\/(c.kind=5/\(doRB S th c bs).1=4/\(doRB S0 th c []).1=0))):=by
 rw [doRB_last h th hk bs h8];exact hr.good
theorem layL_len2 (L:List Ent)(i:Nat)(up:Int)(e:Ent):(layL L i up e).length=L.length+1:=by
 unfold layL;simp only [List.length_append,List.length_cons,List.length_take,List.length_drop];omega
theorem retR_len (R1:Ref)(root:Int)(p:Nat)(up n ix:Int)(c:Cl)(s:Int):∀k,(retR R1 root p up n ix c s k).L.length=R1.L.length+k
 | 0=>rfl
 | k+1=>by
  show (layL (retR R1 root p up n ix c s k).L p up _).length=_;rw [layL_len2,retR_len R1 root p up n ix c s k];omega
theorem copyL_len (R:Ref)(root:Int)(c:Cl)(p:Nat)(e:Ent):(copyL R root c p e).2.length<=R.L.length+1:=by
 unfold copyL;repeat' split
 all_goals first | exact Nat.le_succ _ | (simp only [List.length_set];omega) | (rw [layL_len2];omega)
theorem carve_len (S:RS)(root:Int)(c:Cl)(p:Nat)(e:Ent)(n ix:Int)(hc:c.count<=3):mu (carveS S root c p e n ix).2<=mu S+54:=by
 unfold carveS carveR;split
 ·exact Nat.le_add_right _ _
 ·unfold mu;simp only;rw [retR_len,List.length_set];omega
theorem reset_mu (S:RS)(p:Nat)(e:Ent)(m:Int):mu (resetS S p e m)=mu S:=by
 unfold resetS mu;simp only [List.length_set]
theorem retype_mu (Y:RS)(root:Int)(c:Cl)(p:Nat)(e:Ent)(r:List Bool)(hc:c.count<=3):mu (retypeB Y root c p e r).2<=mu Y+54:=by
 unfold retypeB;split
 ·exact Nat.le_add_right _ _
 ·split
  ·exact Nat.le_add_right _ _
  ·split
   ·exact Nat.le_add_right _ _
   ·split
    ·exact Nat.le_add_right _ _
    ·split
     ·exact Nat.le_add_right _ _
     ·split
      ·split
       ·refine Nat.le_trans (carve_len _ _ _ _ _ _ _ hc) ?_;rw [reset_mu];exact Nat.le_refl _
       ·show mu (resetS _ _ _ _)<=_;rw [reset_mu];omega
      ·exact carve_len _ _ _ _ _ _ _ hc
theorem tail_mu {Y:RS}{K:KS}(h:Ag Y K)(root:Int)(c:Cl)(r:List Bool)(hc:c.count<=3):mu (tailR Y root c r).2<=mu Y+54:=by
 rcases tail_or h root c with ⟨_,e⟩ | ⟨n,ix,_,_,hi,_,⟨_,e⟩ | ⟨p,hp,_,_,_,e⟩⟩
 ·rw [e];exact Nat.le_add_right _ _
 ·rw [e];exact Nat.le_add_right _ _
 ·rw [e];split
  ·exact retype_mu _ _ _ _ _ _ hc
  ·split
   ·have:=(takeB_res h hp r).2;simp only;omega
   ·have:=(revoke_res n ix hi F1 r h (len_F1 h)).2.1;simp only;omega
theorem new_mu (S:RS)(b:Int)(c:Cl):mu (newR S b c).2.2=mu S:=by
 have hT:∀e,mu (talkR S b c e).2=mu S:=by
  intro e;unfold talkR;repeat' split
  all_goals rfl
 have hW:∀e,mu (wordR S c e).2.2=mu S:=by
  intro e;unfold wordR;repeat' split
  all_goals rfl
 have hG:∀root e,mu (giveR S root c e).2=mu S:=by
  intro root e;unfold giveR;repeat' split
  all_goals rfl
 unfold newR;repeat' split
 all_goals first | rfl | exact hT _ | exact hW _ | exact hG _ _
theorem mu_do {S:RS}{K:KS}(h:Ag S K)(th:Int)(c:Cl)(bs:List Bool)(hc:c.count<=3):mu (doRX S th c bs).2.2<=mu S+54:=by
 unfold doRX;split
 ·rw [new_mu];exact Nat.le_add_right _ _
 ·show mu (doRB S th c bs).2<=_;cases ht:S.R.T.find? (isBaseT th) with
  | none=>rw [doRB_none bs ht];exact Nat.le_add_right _ _
  | some t=>
   by_cases hs:t.state=1
   ·by_cases hk:longK c
    ·rw [doRB_eq bs hk ht hs];have h1:=(mu_work2 F0 bs h).1;split
     ·simp only;omega
     ·have:=tail_mu (Ag.work F0 bs h).2 t.root c (workG stepR doneR F0 S bs).2.1 hc;omega
    ·unfold doRB;rw [ht];simp only;rw [if_neg (by simp [hs])];split
     ·exact Nat.le_add_right _ _
     ·rw [if_neg (show ¬(c.kind=1\/c.kind=5\/c.kind=6) from hk)];split
      ·exact Nat.le_add_right _ _
      ·split
       ·exact Nat.le_add_right _ _
       ·split
        ·exact Nat.le_add_right _ _
        ·unfold mu;simp only;refine Nat.le_trans (Nat.add_le_add_right (Nat.mul_le_mul_left 18 (copyL_len S.R t.root c _ _)) _) ?_;omega
   ·rw [doRB_busy bs ht hs];exact Nat.le_add_right _ _
end Go.Proofs.YtdpjgflemddekaaDoor
