/- The document's answer: its small functions that only read. -/
import Derived.Test.YtdpjgflemddekaaGreatDoorRows
import Derived.Test.YtdpjgflemddekaaGreatDoorMBase
import Derived.Deep.QuietTactic
import Derived.BigQuiet
import Derived.Deep.DeepMust
set_option maxRecDepth 100000
set_option maxHeartbeats 1000000
namespace Go.Proofs.YtdpjgflemddekaaGreatDoor
open Go.RowKit
theorem jp {P:Program}{f:FuncId}{args:Array Value}{w:World}{q n:Nat}{v:Value}
 (h:Calls P f args (w.drewN (q+n)) fun e w'=>e=.returned v/\w'=w.drewN (q+n)):Calls P f args (w.drewN (q+n)) fun e w''=>e=.returned v/\∃m,w''=w.drewN (q+m):=
 h.mono fun _ _ ⟨he,hm⟩=>⟨he,n,hm⟩
theorem jg (n:Int)(w:World)(h:n<=20):
 Calls Tryz.prog 106 #[.int .i64 n] w fun e w'=>e=.returned (.int .i64 (pw n.toNat))/\w'=w:=by
 go_enter Tryz.func106,Tryz.ntmps106
 go_wp2;go_loop [3,4] (fun p i=>∃k:Nat,k<=n.toNat/\i=.int .i64 k/\p=.int .i64 (pw k)) (fun _ i=>n.toNat-(intOf i).toNat)
 case atStart=>exact ⟨0,Nat.zero_le _,rfl,rfl⟩
 case round=>
  obtain ⟨k,hk,rfl,rfl⟩:=hrel;have h1:=lq k;have h2:=ag9 k (by omega);have HS:Hid (pw (k+1)=2*pw k):=b26 k;by_cases hlt:(k:Int)<n
  ·go_wp2;go_round
   case rel=>exact ⟨k+1,by omega,by go_num,by rw [HS.out]⟩
   case measure=>simp [intOf];omega
  ·go_wp2;go_ret;have hkn:k=n.toNat:=by omega
   exact ⟨oc (by rw [hkn]),rfl⟩
theorem jj (L:List aw)(kb:Nat)(lv:Value)(nd ix:Int)(w:World)
 (hn:L.length<=1000000)
 (hL:w.cell? ⟨kb,0,none⟩=some lv) (hr:sh w aw.vals 9 lv L) :
 Calls Tryz.prog 82 #[.pointer (some ⟨kb,0,none⟩),.int .i64 nd,.int .i64 ix] w fun e w'=>e=.returned (.int .i64 (atI L nd ix))/\w'=w:=by
 obtain ⟨A,cap,rfl,hA⟩:=hr;go_enter Tryz.func82,Tryz.ntmps82
 go_wp2;go_loop [7] (fun i=>∃k:Nat,k<=L.length/\i=.int .i64 k/\∀j (hj:j<L.length),j<k->ee nd ix L[j]=false) (fun i=>L.length-(intOf i).toNat)
 case atStart=>exact ⟨0,Nat.zero_le _,rfl,fun j hj h=>absurd h (by omega)⟩
 case round=>
  obtain ⟨k,hk,rfl,hno⟩:=hrel;by_cases hlt:k<L.length
  ·obtain ⟨g,rfl,hc⟩:=hA (by omega);have he:=aa0 hc k hlt;obtain ⟨h0,h1,_,_,_,_,_,_,_⟩:=he;clear hc hA;go_wp2
   ·go_ret;exact ⟨oc (a23 hlt hno (by simp_all [ee])).symm,rfl⟩
   ·exact ⟨⟨k+1,by omega,by go_num,oh hlt hno (by simp_all [ee])⟩,by simp [intOf];omega⟩
   ·exact ⟨⟨k+1,by omega,by go_num,oh hlt hno (by simp_all [ee])⟩,by simp [intOf];omega⟩
  ·go_wp2;go_ret;exact ⟨oc (ao1 hlt hno).symm,rfl⟩
theorem ek (T:List ej)(kb:Nat)(tv:Value)(b:Int)(w:World)
 (hn:T.length<=1000000)
 (hT:w.cell? ⟨kb,1026,none⟩=some tv) (hr:sh w ej.vals 6 tv T) :
 Calls Tryz.prog 78 #[.pointer (some ⟨kb,0,none⟩),.int .i64 b] w fun e w'=>e=.returned (.int .i64 (thI T b))/\w'=w:=by
 obtain ⟨A,cap,rfl,hA⟩:=hr;go_enter Tryz.func78,Tryz.ntmps78
 go_wp2;go_loop [5] (fun i=>∃k:Nat,k<=T.length/\i=.int .i64 k/\∀j (hj:j<T.length),j<k->af b T[j]=false) (fun i=>T.length-(intOf i).toNat)
 case atStart=>exact ⟨0,Nat.zero_le _,rfl,fun j hj h=>absurd h (by omega)⟩
 case round=>
  obtain ⟨k,hk,rfl,hno⟩:=hrel;by_cases hlt:k<T.length
  ·obtain ⟨g,rfl,hc⟩:=hA (by omega);have h0:=(bt6 hc k hlt).c0;clear hc hA;go_wp2
   ·go_ret;exact ⟨oc (a23 hlt hno (by simp_all [af])).symm,rfl⟩
   ·exact ⟨⟨k+1,by omega,by go_num,oh hlt hno (by simp_all [af])⟩,by simp [intOf];omega⟩
  ·go_wp2;go_ret;exact ⟨oc (ao1 hlt hno).symm,rfl⟩
theorem uk (N:List pp)(kb:Nat)(nv:Value)(b:Int)(w:World)
 (hn:N.length<=1000000)
 (hN:w.cell? ⟨kb,1025,none⟩=some nv) (hr:sh w pp.vals 2 nv N) (hb:∀l∈N,0<=l.bits/\l.bits<=20) :
 Calls Tryz.prog 104 #[.pointer (some ⟨kb,0,none⟩),.int .i64 b] w fun e w'=>e=.returned (.int .i64 (bf N b))/\w'=w:=by
 obtain ⟨A,cap,rfl,hA⟩:=hr;go_enter Tryz.func104,Tryz.ntmps104
 go_wp2;go_loop [5] (fun i=>∃k:Nat,k<=N.length/\i=.int .i64 k/\∀j (hj:j<N.length),j<k->au b N[j]=false) (fun i=>N.length-(intOf i).toNat)
 case atStart=>exact ⟨0,Nat.zero_le _,rfl,fun j hj h=>absurd h (by omega)⟩
 case round=>
  obtain ⟨k,hk,rfl,hno⟩:=hrel;by_cases hlt:k<N.length
  ·obtain ⟨g,rfl,hc⟩:=hA (by omega);obtain ⟨h0,h1⟩:=bv7 hc k hlt;have hb0:=(hb N[k] (List.getElem_mem hlt)).1;have hb1:=(hb N[k] (List.getElem_mem hlt)).2;clear hc hA hb;go_wp2_with (go_at_call 106;refine (jg _ _ (by omega)).mono ?_;rintro e w' ⟨rfl,rfl⟩)
   ·go_ret;exact ⟨oc (a50 hlt hno (by simp_all [au])).symm,rfl⟩
   ·exact ⟨⟨k+1,by omega,by go_num,oh hlt hno (by simp_all [au])⟩,by simp [intOf];omega⟩
  ·go_wp2;go_ret;exact ⟨oc (a89 hlt hno).symm,rfl⟩
theorem af1 (N:List pp)(kb:Nat)(nv:Value)(b:Int)(w:World)
 (hn:N.length<=1000000)
 (hN:w.cell? ⟨kb,1025,none⟩=some nv) (hr:sh w pp.vals 2 nv N) :
 Calls Tryz.prog 80 #[.pointer (some ⟨kb,0,none⟩),.int .i64 b] w fun e w'=>e=.returned (.int .i64 (fx N b))/\w'=w:=by
 obtain ⟨A,cap,rfl,hA⟩:=hr;go_enter Tryz.func80,Tryz.ntmps80
 go_wp2;go_loop [5] (fun i=>∃k:Nat,k<=N.length/\i=.int .i64 k/\∀j (hj:j<N.length),j<k->au b N[j]=false) (fun i=>N.length-(intOf i).toNat)
 case atStart=>exact ⟨0,Nat.zero_le _,rfl,fun j hj h=>absurd h (by omega)⟩
 case round=>
  obtain ⟨k,hk,rfl,hno⟩:=hrel;by_cases hlt:k<N.length
  ·obtain ⟨g,rfl,hc⟩:=hA (by omega);obtain ⟨h0,h1⟩:=bv7 hc k hlt;clear hc hA;go_wp2
   ·go_ret;exact ⟨oc (a56 hlt (by simp_all [au])).symm,rfl⟩
   ·exact ⟨⟨k+1,by omega,by go_num,oh hlt hno (by simp_all [au])⟩,by simp [intOf];omega⟩
  ·go_wp2;go_ret;exact ⟨oc (a97 hlt hno).symm,rfl⟩
theorem me (L:List aw)(kb:Nat)(lv:Value)(i:Nat)(w:World)
 (hn:L.length<=1000000) (hi:i<L.length)
 (hL:w.cell? ⟨kb,0,none⟩=some lv) (hr:sh w aw.vals 9 lv L) :
 Calls Tryz.prog 105 #[.pointer (some ⟨kb,0,none⟩),.int .i64 i] w fun e w'=>e=.returned (.int .i64 (ie L i L[i].up))/\∃q,w'=w.drewN q:=by
 obtain ⟨A,cap,rfl,hA⟩:=hr;obtain ⟨g,rfl,hc⟩:=hA (by omega);clear hA;have hu:=(aa0 hc i hi).c8;go_enter Tryz.func105,Tryz.ntmps105
 go_wp2;go_loopw [5] (fun n w'=>(∃q,w'=w.drewN q)/\∃k:Nat,i+1<=k/\k<=L.length/\n=.int .i64 k/\∀j (hj:j<L.length),i+1<=j->j<k->below L[i].up L[j]=true) (fun n _=>L.length-(intOf n).toNat)
 case atStart=>exact ⟨⟨0,rfl⟩,i+1,Nat.le_refl _,by omega,by go_num,fun j hj h h'=>absurd h' (by omega)⟩
 case round=>
  obtain ⟨⟨q,rfl⟩,k,hk0,hk,rfl,hyes⟩:=hrel;by_cases hlt:k<L.length
  ·have h8:=(aa0 hc k hlt).c8;have hd:decide ((k:Int)<(L.length:Int))=true:=by simp;omega
   clear hc;by_cases hup:L[i].up<L[k].up
   ·go_wp2;go_quiet (fail)
    go_wp2;go_roundw;case rel=>exact ⟨⟨q+nq,rfl⟩,k+1,by omega,by omega,by go_num,fun j hj h1 h2=>if e:j=k then by subst e;simpa [below] using hup else hyes j hj h1 (by omega)⟩
    case measure=>simp [intOf];omega
   ·go_wp2;go_quiet (fail)
    go_wp2;go_ret;exact ⟨oc (by rw [bf_ hk0 hk hyes (fun _=>by simpa [below] using hup)]),q+nq,mt _ _ _⟩
  ·have hd:decide ((k:Int)<(L.length:Int))=false:=by simp;omega
   clear hc;go_wp2;go_quiet (fail)
   go_wp2;go_ret;exact ⟨oc (by rw [bf_ hk0 hk hyes (fun h=>absurd h hlt)]),q+nq,mt _ _ _⟩
theorem mb (L:List aw)(N:List pp)(kb:Nat)(lv nv av:Value)(root:Int)(l:List Int)(w:World)
 (hn:L.length<=1000000) (hm:N.length<=1000000) (hl:l.length<=9000000000000000000)
 (hL:w.cell? ⟨kb,0,none⟩=some lv) (hr:sh w aw.vals 9 lv L)
 (hN:w.cell? ⟨kb,1025,none⟩=some nv) (hs:sh w pp.vals 2 nv N) (hb:∀l∈N,0<=l.bits/\l.bits<=20)
 (ha:ay w av l) :
 Calls Tryz.prog 81 #[.pointer (some ⟨kb,0,none⟩),.int .i64 root,av] w fun e w'=>e=ts (bk L N root l)/\∃q,w'=w.drewN q:=by
 obtain ⟨A,cap,rfl,hA⟩:=ha;by_cases h1:l.length<1
 ·have e:l.length=0:=by omega
  have hf:bk L N root l=none:=if_pos (by omega);rw [hf];go_enter Tryz.func81,Tryz.ntmps81
  go_wp2;go_ret3
  exact ⟨rfl,0,rfl⟩
 by_cases h3:3<l.length
 ·have hf:bk L N root l=none:=if_pos (by omega);rw [hf];go_enter Tryz.func81,Tryz.ntmps81
  go_wp2;go_ret3
  exact ⟨rfl,0,rfl⟩
 obtain ⟨g,o,rfl,hc⟩:=hA (by omega);clear hA;have hf:bk L N root l=goF L N root l:=if_neg (by omega);rw [hf];go_enter Tryz.func81,Tryz.ntmps81
 go_wp2;go_loopw [9,10] (fun nv' iv w'=>(∃q,w'=w.drewN q)/\∃(k:Nat) (nd:Int),k<=l.length/\iv=.int .i64 k/\nv'=.int .i64 nd/\
  ((k=0/\nd=root)\/∃(j:Nat) (x:Int),k=j+1/\l[j]?=some x/\pt N nd x=true/\goF L N nd (l.drop j)=goF L N root l)) (fun _ iv _=>l.length-(intOf iv).toNat)
 case atStart=>exact ⟨⟨0,rfl⟩,0,root,Nat.zero_le _,rfl,rfl,.inl ⟨rfl,rfl⟩⟩
 case round=>
  obtain ⟨⟨q,rfl⟩,k,nd,hk,rfl,rfl,hst⟩:=hrel;by_cases hlt:k<l.length
  ·have hx:=hc k hlt;rcases hst with ⟨hk0,hnd⟩ | ⟨j,x,hkj,hj,hok,hgo⟩
   ·have HK:Hid (k=0):=hk0;have hkz:¬(0:Int)<(k:Int):=by omega
    have HH0:Hid (goF L N nd (l[k] :: l.drop (k+1))=goF L N root l):=by rw [<- List.drop_eq_getElem_cons hlt,hk0,hnd];rfl
    clear hk0 hnd;have HH:=HH0;by_cases hx0:l[k]<0
    ·have hbad:pt N nd l[k]=false:=by simp [pt];omega
     have hd:decide (l[k]<0)=true:=by simpa using hx0
     go_wp2;go_quiet (fail)
     go_wp2;go_ret3
     exact ⟨by rw [<- HH.out,xl hbad];rfl,_,mt _ _ _⟩
    ·have hd:decide (l[k]<0)=false:=by simpa using hx0
     by_cases hsl:l[k]<bf N nd
     ·have hok1:pt N nd l[k]=true:=by simp [pt];omega
      have hd2:decide (bf N nd<=l[k])=false:=by simp;omega
      go_wp2;go_quiet ((go_at_call 104;exact jp (uk N kb nv _ _ hm (by exact hN) (by exact hs) hb)))
      go_wp2;go_roundw;case rel=>exact ⟨⟨_,rfl⟩,k+1,nd,by omega,by go_num,rfl,.inr ⟨k,l[k],rfl,List.getElem?_eq_getElem hlt,hok1,by rw [List.drop_eq_getElem_cons hlt];exact HH.out⟩⟩
      case measure=>simp [intOf];omega
     ·have hbad:pt N nd l[k]=false:=by simp [pt];omega
      have hd2:decide (bf N nd<=l[k])=true:=by simp;omega
      go_wp2;go_quiet ((go_at_call 104;exact jp (uk N kb nv _ _ hm (by exact hN) (by exact hs) hb)))
      go_wp2;go_ret3
      exact ⟨by rw [<- HH.out,xl hbad];rfl,_,mt _ _ _⟩
   ·subst hkj;have hj':=List.getElem?_eq_some_iff.1 hj;obtain ⟨hjl,rfl⟩:=hj';have hxj:=hc j hjl;have hdj:l.drop j=l[j] :: l[j+1] :: l.drop (j+2):=by rw [List.drop_eq_getElem_cons hjl,List.drop_eq_getElem_cons hlt]
    rcases bo9 L nd l[j] with ⟨hat,hfi⟩ | ⟨p,hp,hat,hfi,_⟩
    ·have HH:Hid (goF L N root l=none):=by
      show _=_;rw [<- hgo,hdj,av3 hok];simp [u_,hfi]
     clear hdj hgo hj;go_wp2_with fail
     refine (jj L kb _ nd l[j] _ hn (by exact hL) (by exact hr)).mono ?_;rintro e w1 ⟨rfl,rfl⟩;rw [hat];go_wp2;go_ret3
     exact ⟨by rw [HH.out];rfl,_,rfl⟩
    ·have hr':=hr;obtain ⟨A2,cap2,rfl,hA2⟩:=hr;obtain ⟨g2,rfl,hc2⟩:=hA2 (by omega);obtain ⟨_,_,e2,e3,_,_,_,_,_⟩:=aa0 hc2 p hp;clear hc2 hA2;by_cases h2:L[p].ty=2
     ·have HH:Hid (goF L N L[p].base (l[j+1] :: l.drop (j+2))=goF L N root l):=by
       show _=_;rw [<- hgo,hdj,av3 hok];simp [u_,hfi,h2]
      clear hdj hgo hj;have H2:(L[p].ty != 2)=false:=by simp [h2]
      clear h2;by_cases hx0:l[j+1]<0
      ·have hbad:pt N L[p].base l[j+1]=false:=by simp [pt];omega
       have hd:decide (l[j+1]<0)=true:=by simpa using hx0
       go_wp2_with fail
       refine (jj L kb _ nd l[j] _ hn (by exact hL) (by exact hr')).mono ?_;rintro e w1 ⟨rfl,rfl⟩;rw [hat];go_wp2;go_quiet (fail)
       go_wp2;go_ret3
       exact ⟨by rw [<- HH.out,xl hbad];rfl,_,mt _ _ _⟩
      ·have hd:decide (l[j+1]<0)=false:=by simpa using hx0
       by_cases hsl:l[j+1]<bf N L[p].base
       ·have hok1:pt N L[p].base l[j+1]=true:=by simp [pt];omega
        have hd2:decide (bf N L[p].base<=l[j+1])=false:=by simp;omega
        go_wp2_with fail
        refine (jj L kb _ nd l[j] _ hn (by exact hL) (by exact hr')).mono ?_;rintro e w1 ⟨rfl,rfl⟩;rw [hat];go_wp2;go_quiet ((go_at_call 104;exact jp (uk N kb nv _ _ hm (by exact hN) (by exact hs) hb)))
        go_wp2;go_roundw;case rel=>exact ⟨⟨_,rfl⟩,j+2,L[p].base,by omega,by go_num,rfl,.inr ⟨j+1,l[j+1],by omega,List.getElem?_eq_getElem hlt,hok1,by rw [List.drop_eq_getElem_cons hlt];exact HH.out⟩⟩
        case measure=>simp [intOf];omega
       ·have hbad:pt N L[p].base l[j+1]=false:=by simp [pt];omega
        have hd2:decide (bf N L[p].base<=l[j+1])=true:=by simp;omega
        go_wp2_with fail
        refine (jj L kb _ nd l[j] _ hn (by exact hL) (by exact hr')).mono ?_;rintro e w1 ⟨rfl,rfl⟩;rw [hat];go_wp2;go_quiet ((go_at_call 104;exact jp (uk N kb nv _ _ hm (by exact hN) (by exact hs) hb)))
        go_wp2;go_ret3
        exact ⟨by rw [<- HH.out,xl hbad];rfl,_,mt _ _ _⟩
     ·have HH:Hid (goF L N root l=none):=by
       show _=_;rw [<- hgo,hdj,av3 hok];simp [u_,hfi,h2]
      clear hdj hgo hj;have H2:(L[p].ty != 2)=true:=by simpa using h2
      clear h2;go_wp2_with fail
      refine (jj L kb _ nd l[j] _ hn (by exact hL) (by exact hr')).mono ?_;rintro e w1 ⟨rfl,rfl⟩;rw [hat];go_wp2;go_ret3
      exact ⟨by rw [HH.out];rfl,_,rfl⟩
  ·have hkl:k=l.length:=by omega
   rcases hst with ⟨hk0,hnd⟩ | ⟨j,x,hkj,hj,hok,hgo⟩
   ·omega
   ·subst hkj;obtain ⟨hjl,rfl⟩:=List.getElem?_eq_some_iff.1 hj;have hxj:=hc j hjl;have HH:Hid (goF L N root l=some (nd,l[j])):=by
     show _=_;rw [<- hgo,List.drop_eq_getElem_cons hjl,List.drop_eq_nil_of_le (by omega),a59 hok]
    have hlen:(l.length:Int)-1=(j:Int):=by omega
    clear hgo hj;go_wp2;go_quiet (fail)
    go_wp2;go_ret3
    exact ⟨by rw [HH.out];rfl,_,mt _ _ _⟩
theorem av0:(Tryz.prog.info? 108).map (fun i=>(i.zero,i.size,i.bytes))=some (some (.agg #[.int .i64 0,.int .i64 0,.int .i64 0,.int .i64 0,.int .i64 0,.int .i64 0,.int .i64 0,.int .i64 0,.int .i64 0]),9,72):=by kernel_rfl
theorem au2 (R:dq)(V:ax)(kb i:Nat)(e:aw)(w:World)(h:aj w kb R V)
 (hn:R.L.length<=1000000) (hi:i<R.L.length) (hup:R.L[i].up<=1000000) (hup0:0<=R.L[i].up) :
 Calls Tryz.prog 107 #[.pointer (some ⟨kb,0,none⟩),.int .i64 i,.agg e.vals.toArray] w fun e' w'=>e'=.returned (.tuple #[])/\
  ∃lv',aj w' kb {R with L:=ns R.L i R.L[i].up e} {V with lv:=lv'}/\Fr w w' (V.fp kb)/\(∀k,lv'.ownBlock=some k->w.heap.size<=k):=by
 obtain ⟨i0,hi0,hz0,hz1,hz2⟩:=info_parts av0;have hcl:=h.cl;obtain ⟨g,cap,hlv,hcap,hmax,hglt⟩:=ep h.l (by omega);rw [hlv] at hcl;have hu:w.cell? ⟨g,i*9+8,none⟩=some (.int .i64 R.L[i].up):=by
  obtain ⟨A,cap',hlv',hA⟩:=h.ll;obtain ⟨g',rfl,hc⟩:=hA (by omega);rw [hlv] at hlv';cases hlv'
  exact (aa0 hc i hi).c8
 have hklt:kb<w.heap.size:=World.block_lt_of_cell? w _ hcl;unfold maxLen at hmax;have hvals:e.vals.toArray=#[.int .i64 e.node,.int .i64 e.index,.int .i64 e.ty,.int .i64 e.base,.int .i64 e.bits,.int .i64 e.rights,.int .i64 e.badge,.int .i64 e.mark,.int .i64 e.up]:=rfl;rw [hvals];clear hvals;go_enter Tryz.func107,Tryz.ntmps107
 go_wp2_with fail
 generalize hW1:w.alloc (Obj.cells #[.int .i64 e.node,.int .i64 e.index,.int .i64 e.ty,.int .i64 e.base,.int .i64 e.bits,.int .i64 e.rights,.int .i64 e.badge,.int .i64 e.mark,.int .i64 (R.L[i].up+1)] 108)=W1;have hf1:Fr w W1 (fun _=>False):=by rw [<- hW1];exact (Fr.refl _ _).alloc _
 have hs1:W1.heap.size=w.heap.size+1:=by rw [<- hW1];simp
 have hb1:W1.heap[w.heap.size]?=some (Obj.cells #[.int .i64 e.node,.int .i64 e.index,.int .i64 e.ty,.int .i64 e.base,.int .i64 e.bits,.int .i64 e.rights,.int .i64 e.badge,.int .i64 e.mark,.int .i64 (R.L[i].up+1)] 108):=by rw [<- hW1];exact heap_alloc_new _ _
 clear hW1;have h1:aj W1 kb R V:=h.frame hf1 (fun _ _=>id);refine (me R.L kb V.lv i W1 hn hi h1.cl h1.ll).mono ?_;rintro e1 w2 ⟨rfl,q,rfl⟩;have hx1:i+1<=ie R.L i R.L[i].up:=by unfold ie;omega
 have hx2:ie R.L i R.L[i].up<=R.L.length:=by unfold ie;have:=(List.takeWhile_sublist (below R.L[i].up) (l:=R.L.drop (i+1))).length_le;simp at this;omega
 generalize hx:ie R.L i R.L[i].up=x at hx1 hx2;have Hx:Hid (ie R.L i R.L[i].up=x):=hx;clear hx;have hc1:(W1.drewN q).cell? ⟨kb,0,none⟩=some (Value.slice (some ⟨g,0,none⟩) R.L.length cap):=by rw [<- hlv];exact h1.cl
 have hown1:(W1.drewN q).ownsRow 0 108 9 (.slice (some ⟨g,0,none⟩) R.L.length cap) R.L.length (gn R.L):=by rw [<- hlv];exact h1.l
 have hrl:(gn R.L).length=R.L.length*9:=n7 _ 9 aw.vals_len _;go_wp2_with (at_builtin;refine wpList_append_own _ rfl _ _ 100 rfl (w.heap.size+1) 108 i0 _ 9 72 Tryz.underlying100 hi0 hz0 hz1 hz2 rfl (by decide) _ 0 [] rfl (World.ownsRow_nil _ _ _ _) ⟨g,0,none⟩ x cap ((gn R.L).take (x*9)) rfl ?_ (aq8 hown1 _) ?_ ?_ ?_ ?_ ?_)
 ·rw [List.length_take,hrl];omega
 ·exact fun u hu=>j7 _ aw.one _ u (List.mem_of_mem_take hu)
 ·unfold maxLen;omega
 ·omega
 ·show w.heap.size+1<=W1.heap.size;omega
 intro v2 W2 hown2 hg2 hnil2;have hf2:Fr w W2 (fun _=>False):=(hf1.drewN q).grown hg2 (by simp [Value.ownBlock]);have hs2:w.heap.size+1<=W2.heap.size:=by have:=hg2.size;simp only [hs1,World.drewN] at this;omega
 have hb2:=(Fr.refl (W1.drewN q) (fun _=>False)).grown hg2 (by simp [Value.ownBlock]) |>.same hb1 id;have h2:aj W2 kb R V:=h.frame hf2 (fun _ _=>id);have k0:=aa (o:=0) hb2 rfl;have k1:=aa (o:=1) hb2 rfl;have k2:=aa (o:=2) hb2 rfl;have k3:=aa (o:=3) hb2 rfl;have k4:=aa (o:=4) hb2 rfl;have k5:=aa (o:=5) hb2 rfl;have k6:=aa (o:=6) hb2 rfl;have k7:=aa (o:=7) hb2 rfl;have k8:=aa (o:=8) hb2 rfl;clear hg2 hnil2 hf1 h1 hc1 hown1 hb2 hb1 hcl hu;go_wp2_with (at_builtin;go_must (refine wpList_append_own _ rfl _ _ 100 rfl (w.heap.size+1) 108 i0 _ 9 72 Tryz.underlying100 hi0 hz0 hz1 hz2 rfl (by decide) v2 x _ rfl (hown2.alloc _) ⟨W2.heap.size,0,none⟩ 1 1 [.int .i64 e.node,.int .i64 e.index,.int .i64 e.ty,.int .i64 e.base,.int .i64 e.bits,.int .i64 e.rights,.int .i64 e.badge,.int .i64 e.mark,.int .i64 (R.L[i].up+1)] rfl rfl (dg _ _ _) (aw.one ⟨e.node,e.index,e.ty,e.base,e.bits,e.rights,e.badge,e.mark,R.L[i].up+1⟩) ?_ ?_ ?_ ?_))
 ·unfold maxLen;omega
 ·omega
 ·simp;omega
 intro v3 W3 hown3 hg3 hnil3;have hlt2:=hown2.lt;have hf3:Fr w W3 (fun _=>False):=(hf2.alloc _).grown hg3 (fun k hk=>.inr (by have:=(hlt2 k hk).1;omega))
 have hs3:w.heap.size+1<=W3.heap.size:=by have:=hg3.size;simp at this;omega
 have h3:aj W3 kb R V:=h.frame hf3 (fun _ _=>id);have hc3:W3.cell? ⟨kb,0,none⟩=some (Value.slice (some ⟨g,0,none⟩) R.L.length cap):=by rw [<- hlv];exact h3.cl
 have hz3:W3.frozen? ⟨kb,0,none⟩=false:=h3.fz 0;have hown1:W3.ownsRow 0 108 9 (.slice (some ⟨g,0,none⟩) R.L.length cap) R.L.length (gn R.L):=by rw [<- hlv];exact h3.l
 clear hg3 hnil3 k0 k1 k2 k3 k4 k5 k6 k7 k8 h2 hf2 hs2 hown2 hlt2;by_cases hcx:cap=x
 ·subst hcx;go_wp2_with (at_builtin;go_must (refine wpList_append_own _ rfl _ _ 100 rfl (w.heap.size+1) 108 i0 _ 9 72 Tryz.underlying100 hi0 hz0 hz1 hz2 rfl (by decide) v3 _ _ rfl hown3 ⟨g,0,none⟩ _ _ ((gn R.L).drop (cap*9)) rfl ?_ ?_ ?_ ?_ ?_ ?_ ?_))
  ·rw [List.length_drop,hrl];omega
  ·intro j u hu;rw [List.drop_eq_nil_of_le (by omega)] at hu;cases hu
  ·exact fun u hu=>j7 _ aw.one _ u (List.mem_of_mem_drop hu)
  ·unfold maxLen;omega
  ·omega
  ·omega
  intro v4 W4 hown4 hg4 hnil4;obtain ⟨g4,cap4,rfl,_,_,_⟩:=ep hown4 (by omega);generalize hv4:Value.slice (some ⟨g4,0,none⟩) _ cap4=v4 at hown4;have hlt3:=hown3.lt;have hf4:Fr w W4 (fun _=>False):=hf3.grown hg4 (fun k hk=>.inr (by have:=(hlt3 k hk).1;omega))
  have h4:aj W4 kb R V:=h.frame hf4 (fun _ _=>id);have hc4:W4.cell? ⟨kb,0,none⟩=some (Value.slice (some ⟨g,0,none⟩) R.L.length cap):=by rw [<- hlv];exact h4.cl
  have hz4:W4.frozen? ⟨kb,0,none⟩=false:=h4.fz 0;have hf5:Fr w (W4.setCell ⟨kb,0,none⟩ v4) (V.fp kb):=(hf4.mono (fun _=>False.elim)).setCell (.inl (.inl rfl)) _ _;have hlt4:=World.ownsRow.lt hown4;have hown5:=jn hown4 (Nat.zero_le _);have hrow:gn (ns R.L i R.L[i].up e)=(gn R.L).take (cap*9)++[.int .i64 e.node,.int .i64 e.index,.int .i64 e.ty,.int .i64 e.base,.int .i64 e.bits,.int .i64 e.rights,.int .i64 e.badge,.int .i64 e.mark,.int .i64 (R.L[i].up+1)]++(gn R.L).drop (cap*9):=by
   unfold ns gn;rw [Hx.out,List.flatMap_append,List.flatMap_cons,qn _ 9 aw.vals_len,qo _ 9 aw.vals_len];simp [aw.vals]
  have hlen:(ns R.L i R.L[i].up e).length=cap+1+(R.L.length-cap):=by
   unfold ns;rw [Hx.out];simp;omega
  have h5:aj (W4.setCell ⟨kb,0,none⟩ v4) kb {R with L:=ns R.L i R.L[i].up e} {V with lv:=v4}:=by
   refine h4.setL rfl ?_ ?_
   ·rw [hrow,hlen];first | simpa using hown5 | (rw [show cap+1+(R.L.length-cap)=cap+1 by omega];simpa using hown5)
   ·intro k hk;have hk1:=(hlt4 k hk).1;refine ⟨fun hk2=>?_,fun hk2=>?_,fun hk2=>by omega⟩
    ·have:=h.fpLt (k:=k) (.inr (.inr (.inl hk2)));omega
    ·have:=h.fpLt (k:=k) (.inr (.inr (.inr hk2)));omega
  clear hrow hlen hown5 hown4 hg4 hnil4 h4 hown3 hown1 hf3 hf4;subst hv4;go_wp2;go_end0;exact ⟨rfl,_,h5,hf5,fun k hk=>by have:=(hlt4 k hk).1;omega⟩
 ·have hcx':¬cap=x:=hcx;go_wp2_with (at_builtin;go_must (refine wpList_append_own _ rfl _ _ 100 rfl (w.heap.size+1) 108 i0 _ 9 72 Tryz.underlying100 hi0 hz0 hz1 hz2 rfl (by decide) v3 _ _ rfl hown3 ⟨g,x*9,none⟩ _ _ ((gn R.L).drop (x*9)) rfl ?_ ?_ ?_ ?_ ?_ ?_ ?_))
  ·rw [List.length_drop,hrl];omega
  ·exact aq5 hown1 _
  ·exact fun u hu=>j7 _ aw.one _ u (List.mem_of_mem_drop hu)
  ·unfold maxLen;omega
  ·omega
  ·omega
  intro v4 W4 hown4 hg4 hnil4;obtain ⟨g4,cap4,rfl,_,_,_⟩:=ep hown4 (by omega);generalize hv4:Value.slice (some ⟨g4,0,none⟩) _ cap4=v4 at hown4;have hlt3:=hown3.lt;have hf4:Fr w W4 (fun _=>False):=hf3.grown hg4 (fun k hk=>.inr (by have:=(hlt3 k hk).1;omega))
  have h4:aj W4 kb R V:=h.frame hf4 (fun _ _=>id);have hc4:W4.cell? ⟨kb,0,none⟩=some (Value.slice (some ⟨g,0,none⟩) R.L.length cap):=by rw [<- hlv];exact h4.cl
  have hz4:W4.frozen? ⟨kb,0,none⟩=false:=h4.fz 0;have hf5:Fr w (W4.setCell ⟨kb,0,none⟩ v4) (V.fp kb):=(hf4.mono (fun _=>False.elim)).setCell (.inl (.inl rfl)) _ _;have hlt4:=World.ownsRow.lt hown4;have hown5:=jn hown4 (Nat.zero_le _);have hrow:gn (ns R.L i R.L[i].up e)=(gn R.L).take (x*9)++[.int .i64 e.node,.int .i64 e.index,.int .i64 e.ty,.int .i64 e.base,.int .i64 e.bits,.int .i64 e.rights,.int .i64 e.badge,.int .i64 e.mark,.int .i64 (R.L[i].up+1)]++(gn R.L).drop (x*9):=by
   unfold ns gn;rw [Hx.out,List.flatMap_append,List.flatMap_cons,qn _ 9 aw.vals_len,qo _ 9 aw.vals_len];simp [aw.vals]
  have hlen:(ns R.L i R.L[i].up e).length=x+1+(R.L.length-x):=by
   unfold ns;rw [Hx.out];simp;omega
  have h5:aj (W4.setCell ⟨kb,0,none⟩ v4) kb {R with L:=ns R.L i R.L[i].up e} {V with lv:=v4}:=by
   refine h4.setL rfl ?_ ?_
   ·rw [hrow,hlen];first | simpa using hown5 | (rw [show cap+1+(R.L.length-cap)=cap+1 by omega];simpa using hown5)
   ·intro k hk;have hk1:=(hlt4 k hk).1;refine ⟨fun hk2=>?_,fun hk2=>?_,fun hk2=>by omega⟩
    ·have:=h.fpLt (k:=k) (.inr (.inr (.inl hk2)));omega
    ·have:=h.fpLt (k:=k) (.inr (.inr (.inr hk2)));omega
  clear hrow hlen hown5 hown4 hg4 hnil4 h4 hown3 hown1 hf3 hf4;subst hv4;go_wp2;go_end0;exact ⟨rfl,_,h5,hf5,fun k hk=>by have:=(hlt4 k hk).1;omega⟩
theorem j6 {α:Type}(p:α->Bool)(L:List α):
 (ad7 (L.findIdx? p)=-1/\L.find? p=none)\/∃(k:Nat) (hk:k<L.length),ad7 (L.findIdx? p)=(k:Int)/\L.find? p=some L[k]/\p L[k]=true:=by
 cases h:L.findIdx? p with
 | none=>
  left;refine ⟨rfl,?_⟩;rw [List.findIdx?_eq_none_iff] at h;rw [List.find?_eq_none];intro y hy;simp [h y hy]
 | some k=>
  right;rw [List.findIdx?_eq_some_iff_getElem] at h;obtain ⟨hk,h1,h2⟩:=h;refine ⟨k,hk,rfl,?_,h1⟩;rw [List.find?_eq_some_iff_getElem];exact ⟨h1,k,hk,rfl,fun j hj=>by simpa using h2 j hj⟩
def yy:Option ej->Value
 | some t=>.tuple #[.agg #[.int .i64 t.state,.int .i64 t.root,.int .i64 t.value,.int .i64 t.badge,.int .i64 t.err],.bool true]
 | none=>.tuple #[.agg #[.int .i64 0,.int .i64 0,.int .i64 0,.int .i64 0,.int .i64 0],.bool false]
theorem iq {w:World}{kb:Nat}{R:dq}{V:ax}(h:aj w kb R V)(p:Nat)(hp:p<R.T.length):
 ∃g cap,V.tv=.slice (some ⟨g,0,none⟩) R.T.length cap/\R.T.length<=cap/\g<w.heap.size/\b46 w g (p*6) R.T[p]:=by
 obtain ⟨g,cap,hv,hc,_,hg⟩:=ep h.t (by omega);refine ⟨g,cap,hv,hc,hg,?_⟩;obtain ⟨A',cap',hv',hA'⟩:=h.ltt;obtain ⟨g',rfl,hc'⟩:=hA' (by omega);rw [hv] at hv';cases hv'
 exact bt6 hc' p hp
theorem fe {w:World}{kb:Nat}{R:dq}{V:ax}(h:aj w kb R V)(p:Nat)(hp:p<R.L.length):
 ∃g cap,V.lv=.slice (some ⟨g,0,none⟩) R.L.length cap/\R.L.length<=cap/\g<w.heap.size/\a75 w g (p*9) R.L[p]:=by
 obtain ⟨g,cap,hv,hc,_,hg⟩:=ep h.l (by omega);refine ⟨g,cap,hv,hc,hg,?_⟩;obtain ⟨A',cap',hv',hA'⟩:=h.ll;obtain ⟨g',rfl,hc'⟩:=hA' (by omega);rw [hv] at hv';cases hv'
 exact aa0 hc' p hp
theorem af9 (R:dq)(V:ax)(kb:Nat)(b:Int)(w:World)(h:aj w kb R V)(hn:R.T.length<=1000000):
 Calls Tryz.prog 51 #[.pointer (some ⟨kb,0,none⟩),.int .i64 b] w fun e' w'=>e'=.returned (yy (R.T.find? (af b)))/\Fr w w' (fun _=>False):=by
 have hct:=h.ct;have hklt:kb<w.heap.size:=World.block_lt_of_cell? w _ hct;rcases j6 (af b) R.T with ⟨hx,hfi⟩ | ⟨p,hp,hx,hfi,_⟩
 ·rw [hfi];go_enter Tryz.func51,Tryz.ntmps51
  go_wp2_with fail
  refine (ek R.T kb V.tv b _ hn ?_ ?_).mono ?_
  ·exact (h.frame ((Fr.refl _ _).alloc _) (fun _ _=>id)).ct
  ·exact (h.frame ((Fr.refl _ _).alloc _) (fun _ _=>id)).ltt
  rintro e w1 ⟨rfl,rfl⟩;unfold thI;rw [hx];go_wp2;refine bodyPost_ret (v:=yy none) (by simp [results,Tryz.results51,go_sem,yy]) rfl ⟨rfl,?_⟩;exact (Fr.refl _ _).alloc _
 ·rw [hfi];obtain ⟨g,cap,htv,hcap,hglt,t0,t1,t2,t3,t4,t5⟩:=iq h p hp;rw [htv] at hct;go_enter Tryz.func51,Tryz.ntmps51
  go_wp2_with fail
  refine (ek R.T kb V.tv b _ hn ?_ ?_).mono ?_
  ·exact (h.frame ((Fr.refl _ _).alloc _) (fun _ _=>id)).ct
  ·exact (h.frame ((Fr.refl _ _).alloc _) (fun _ _=>id)).ltt
  rintro e w1 ⟨rfl,rfl⟩;unfold thI;rw [hx];go_wp2;refine bodyPost_ret (v:=yy (some R.T[p])) (by simp [results,Tryz.results51,go_sem,yy]) rfl ⟨rfl,?_⟩;exact (Fr.refl _ _).alloc _
theorem bk9 (R:dq)(V:ax)(kb:Nat)(root:Int)(c:Cl)(av tv:Value)(p:Nat)(w:World)(h:aj w kb R V)
 (hn:R.L.length<=1000000) (hm:R.N.length<=1000000) (hb:∀l∈R.N,0<=l.bits/\l.bits<=20) (hp:p<R.L.length) (hl:c.to.length<=9000000000000000000)
 (htv:ay w tv c.to) (hk:c.kind=4) :
 Calls Tryz.prog 86 #[.pointer (some ⟨kb,0,none⟩),.int .i64 root,.agg (c.cells av tv),.int .i64 p,.agg #[.int .i64 R.L[p].ty,.int .i64 R.L[p].base,.int .i64 R.L[p].bits,.int .i64 R.L[p].rights,.int .i64 R.L[p].badge,.int .i64 R.L[p].mark]] w fun e' w'=>
  e'=.returned (.int .i64 (bw R root c p R.L[p]).1)/\aj w' kb {R with L:=(bw R root c p R.L[p]).2} V/\Fr w w' (V.fp kb):=by
 obtain ⟨g,cap,hlv,hcap,hglt,e0,e1,e2,e3,e4,e5,e6,e7,e8⟩:=fe h p hp;have hcl:=h.cl;rw [hlv] at hcl;have hklt:kb<w.heap.size:=World.block_lt_of_cell? w _ hcl;unfold Cl.cells;rw [hk];go_enter Tryz.func86,Tryz.ntmps86
 go_wp2_with fail
 generalize hW1:(w.alloc _).alloc _=W1;have hf1:Fr w W1 (fun _=>False):=by rw [<- hW1];exact ((Fr.refl _ _).alloc _).alloc _
 have hs1:W1.heap.size=w.heap.size+2:=by rw [<- hW1];simp
 have hk1:W1.cell? ⟨w.heap.size,0,none⟩=some (.int .i64 4):=by rw [<- hW1];simp
 clear hW1;have h1:aj W1 kb R V:=h.frame hf1 (fun _ _=>id);refine (mb R.L R.N kb V.lv V.nv tv root c.to W1 hn hm hl h1.cl h1.ll h1.cn h1.lnn hb (htv.fr hf1 (fun _ _=>id))).mono ?_;rintro e w2 ⟨rfl,q,rfl⟩;have HC:Hid (bw R root c p R.L[p]=match bk R.L R.N root c.to with
  | none=>(2,R.L)
  | some (n,i)=>if (R.L.find? (ee n i)).isSome then (4,R.L) else (0,R.L.set p {R.L[p] with node:=n,index:=i})):=by
  show _=_;unfold bw;rw [hk,if_neg (by simp),if_neg (by simp),if_neg (by simp)];rfl
 cases hfi:bk R.L R.N root c.to with
 | none=>
  rw [hfi] at HC;dsimp only [ts];go_wp2;go_ret;exact ⟨by rw [HC.out];rfl,by rw [HC.out];exact h1.frame ((Fr.refl _ _).drewN q) (fun _ _=>id),(hf1.drewN q).mono (fun _=>False.elim)⟩
 | some ni=>
  obtain ⟨n,ix⟩:=ni;rw [hfi] at HC;clear hfi;dsimp only [ts];go_wp2_with fail
  have h2:aj (W1.drewN q) kb R V:=h1.frame ((Fr.refl _ _).drewN q) (fun _ _=>id);refine (jj R.L kb V.lv n ix _ hn h2.cl h2.ll).mono ?_;rintro e w3 ⟨rfl,rfl⟩;rcases j6 (ee n ix) R.L with ⟨hx,hfi⟩ | ⟨x,hx',hx,hfi,_⟩
  ·unfold atI;rw [hx];rw [hfi] at HC;have h3:=h2.setNode hp hlv n ix;have hf3:Fr w (((W1.drewN q).setCell ⟨g,p*9,none⟩ (.int .i64 n)).setCell ⟨g,p*9+1,none⟩ (.int .i64 ix)) (V.fp kb):=
    ((((hf1.drewN q).mono (fun _=>False.elim)).setCell (.inl (.inr (.inl (by rw [hlv];rfl)))) _ _).setCell (.inl (.inr (.inl (by rw [hlv];rfl)))) _ _)
   have hc2:=h2.cl;rw [hlv] at hc2;obtain ⟨g',cap',hlv',_,_,e0,e1,_,_,_,_,_,_,_⟩:=fe h2 p hp;rw [hlv] at hlv';cases hlv'
   have hfz:∀o,(W1.drewN q).frozen? ⟨g,o,none⟩=false:=by
    intro o;have:=h2.l;rw [hlv] at this;rcases this.2 with ⟨h0,_⟩ | ⟨g',cap',cur,hv,hb,hg,_⟩
    ·cases h0
    ·cases hv;exact ab hg
   have z0:=hfz (p*9);have z1:=hfz (p*9+1);have hgk:¬g=kb:=fun e=>h.kl (by rw [hlv,e];rfl)
   clear hfz;go_wp2;go_ret;exact ⟨by rw [HC.out];rfl,by rw [HC.out];exact h3,hf3⟩
  ·unfold atI;rw [hx];rw [hfi] at HC;go_wp2;go_ret;exact ⟨by rw [HC.out];rfl,by rw [HC.out];exact h2,(hf1.drewN q).mono (fun _=>False.elim)⟩
theorem jy {w W1:World}{kb:Nat}{R:dq}{V:ax}(h:aj w kb R V)(hf:Fr w W1 (fun _=>False)){x:Int}{y:Int×List aw}(hy:y=(x,R.L)):
 Ending.returned (Value.int .i64 x)=.returned (.int .i64 y.1)/\∃lv',aj W1 kb {R with L:=y.2} {V with lv:=lv'}/\Fr w W1 (V.fp kb)/\(∀k,lv'.ownBlock=some k->V.lv.ownBlock=some k\/w.heap.size<=k):=by
 subst hy;exact ⟨rfl,V.lv,h.frame hf (fun _ _=>id),hf.mono (fun _=>False.elim),fun k hk=>.inl hk⟩
theorem bj2 (R:dq)(V:ax)(kb:Nat)(root:Int)(c:Cl)(av tv:Value)(p:Nat)(w:World)(h:aj w kb R V)
 (hn:R.L.length<=1000000) (hm:R.N.length<=1000000) (hb:∀l∈R.N,0<=l.bits/\l.bits<=20) (hp:p<R.L.length) (hl:c.to.length<=9000000000000000000)
 (hu0:0<=R.L[p].up) (hu1:R.L[p].up<=1000000) (htv:ay w tv c.to) (hk:c.kind=2) :
 Calls Tryz.prog 86 #[.pointer (some ⟨kb,0,none⟩),.int .i64 root,.agg (c.cells av tv),.int .i64 p,.agg #[.int .i64 R.L[p].ty,.int .i64 R.L[p].base,.int .i64 R.L[p].bits,.int .i64 R.L[p].rights,.int .i64 R.L[p].badge,.int .i64 R.L[p].mark]] w fun e' w'=>
  e'=.returned (.int .i64 (bw R root c p R.L[p]).1)/\∃lv',aj w' kb {R with L:=(bw R root c p R.L[p]).2} {V with lv:=lv'}/\Fr w w' (V.fp kb)/\(∀k,lv'.ownBlock=some k->V.lv.ownBlock=some k\/w.heap.size<=k):=by
 obtain ⟨g,cap,hlv,hcap,hglt,e0,e1,e2,e3,e4,e5,e6,e7,e8⟩:=fe h p hp;have hcl:=h.cl;rw [hlv] at hcl;clear hlv;have hklt:kb<w.heap.size:=World.block_lt_of_cell? w _ hcl;unfold Cl.cells;by_cases ht:R.L[p].ty=1
 ·have HC:Hid (bw R root c p R.L[p]=(3,R.L)):=if_pos (.inl ⟨hk,ht⟩);rw [hk];have ht':(R.L[p].ty==1)=true:=by simpa using ht
  clear ht;go_enter Tryz.func86,Tryz.ntmps86
  go_wp2_with fail
  go_ret;exact jy h (((Fr.refl _ _).alloc _).alloc _) HC.out
 by_cases hr:c.rights<0\/7<c.rights
 ·have HC:Hid (bw R root c p R.L[p]=(7,R.L)):=by
   show _=_;unfold bw;rw [if_neg (by rw [hk];simp [ht]),if_neg (by rw [hk];simp),if_pos (.inl ⟨by rw [hk];simp,hr⟩)]
  rw [hk];have ht':(R.L[p].ty==1)=false:=by simpa using ht
  clear ht;rcases hr with hr | hr;all_goals
   go_enter Tryz.func86,Tryz.ntmps86
   go_wp2_with fail
   go_ret;exact jy h (((Fr.refl _ _).alloc _).alloc _) HC.out
 have hr0:0<=c.rights:=by omega
 have hr1:c.rights<=7:=by omega
 have HC:Hid (bw R root c p R.L[p]=match bk R.L R.N root c.to with
  | none=>(2,R.L)
  | some (n,i)=>if (R.L.find? (ee n i)).isSome then (4,R.L) else (0,ns R.L p R.L[p].up {R.L[p] with node:=n,index:=i,rights:=gp R.L[p].rights c.rights,up:=0})):=by
  show _=_;unfold bw;rw [if_neg (by rw [hk];simp [ht]),if_neg (by rw [hk];simp),if_neg (by rw [hk];simp;omega)];simp only [hk];rfl
 rw [hk];have ht':(R.L[p].ty==1)=false:=by simpa using ht
 clear ht hr;go_enter Tryz.func86,Tryz.ntmps86
 go_wp2_with fail
 generalize hW1:(w.alloc _).alloc _=W1;have hf1:Fr w W1 (fun _=>False):=by rw [<- hW1];exact ((Fr.refl _ _).alloc _).alloc _
 have hs1:W1.heap.size=w.heap.size+2:=by rw [<- hW1];simp
 have hba:W1.heap[w.heap.size]?=some (.cells #[.int .i64 2,av,tv,.int .i64 c.ty,.int .i64 c.bits,.int .i64 c.count,.int .i64 c.rights,.int .i64 c.badge,.int .i64 c.value,.int .i64 c.offset] 41 (0,0)):=by
  rw [<- hW1,heap_alloc_old _ _ (by simp)];exact heap_alloc_new _ _
 have hbh:W1.heap[w.heap.size+1]?=some (.cells #[.int .i64 R.L[p].ty,.int .i64 R.L[p].base,.int .i64 R.L[p].bits,.int .i64 R.L[p].rights,.int .i64 R.L[p].badge,.int .i64 R.L[p].mark] 46 (0,0)):=by
  rw [<- hW1];have:=heap_alloc_new (w.alloc (.cells #[.int .i64 2,av,tv,.int .i64 c.ty,.int .i64 c.bits,.int .i64 c.count,.int .i64 c.rights,.int .i64 c.badge,.int .i64 c.value,.int .i64 c.offset] 41)) (.cells #[.int .i64 R.L[p].ty,.int .i64 R.L[p].base,.int .i64 R.L[p].bits,.int .i64 R.L[p].rights,.int .i64 R.L[p].badge,.int .i64 R.L[p].mark] 46);simpa using this
 clear hW1;have h1:aj W1 kb R V:=h.frame hf1 (fun _ _=>id);refine (mb R.L R.N kb V.lv V.nv tv root c.to W1 hn hm hl h1.cl h1.ll h1.cn h1.lnn hb (htv.fr hf1 (fun _ _=>id))).mono ?_;rintro e w2 ⟨rfl,q,rfl⟩;cases hfi:bk R.L R.N root c.to with
 | none=>
  rw [hfi] at HC;dsimp only [ts];go_wp2;go_ret;exact jy h (hf1.drewN q) HC.out
 | some ni=>
  obtain ⟨n,ix⟩:=ni;rw [hfi] at HC;clear hfi;dsimp only [ts];go_wp2_with fail
  have h2:aj (W1.drewN q) kb R V:=h1.frame ((Fr.refl _ _).drewN q) (fun _ _=>id);refine (jj R.L kb V.lv n ix _ hn h2.cl h2.ll).mono ?_;rintro e w3 ⟨rfl,rfl⟩;rcases j6 (ee n ix) R.L with ⟨hx,hfi⟩ | ⟨x,hx',hx,hfi,_⟩
  ·unfold atI;rw [hx];rw [hfi] at HC;have k0:=aa (o:=0) hba rfl;have k6:=aa (o:=6) hba rfl;obtain ⟨g0,g1,g2,g3,g4,g5⟩:=aa_ hbh;have gz:W1.frozen? ⟨w.heap.size+1,3,none⟩=false:=ab hbh;go_wp2_with fail
   have hf2:Fr w ((W1.drewN q).setCell ⟨w.heap.size+1,3,none⟩ (.int .i64 (Go.bits BinOp.and IntKind.i64 R.L[p].rights c.rights))) (fun _=>False):=(hf1.drewN q).setCell (.inr (by omega)) _ _;have h3:=h.frame hf2 (fun _ _=>id);refine (au2 R V kb p ⟨n,ix,R.L[p].ty,R.L[p].base,R.L[p].bits,gp R.L[p].rights c.rights,R.L[p].badge,R.L[p].mark,0⟩ _ h3 hn hp hu1 hu0).mono ?_;rintro e w4 ⟨rfl,lv',h4,hf4,hlt4⟩;have hf5:Fr w w4 (V.fp kb):=(hf2.mono (fun _=>False.elim)).step hf4 (fun k hk=>.inl hk);have hsz:=hf2.size;clear hf2 h3 hf4;go_wp2;go_ret;exact ⟨by rw [HC.out];rfl,lv',by rw [HC.out];exact h4,hf5,fun k hk=>.inr (Nat.le_trans hsz (hlt4 k hk))⟩
  ·unfold atI;rw [hx];rw [hfi] at HC;have k0:=aa (o:=0) hba rfl;go_wp2;go_ret;exact jy h (hf1.drewN q) HC.out
theorem bm0 (R:dq)(V:ax)(kb:Nat)(root:Int)(c:Cl)(av tv:Value)(p:Nat)(w:World)(h:aj w kb R V)
 (hn:R.L.length<=1000000) (hm:R.N.length<=1000000) (hb:∀l∈R.N,0<=l.bits/\l.bits<=20) (hp:p<R.L.length) (hl:c.to.length<=9000000000000000000)
 (hu0:0<=R.L[p].up) (hu1:R.L[p].up<=1000000) (htv:ay w tv c.to) (hk:c.kind=3) :
 Calls Tryz.prog 86 #[.pointer (some ⟨kb,0,none⟩),.int .i64 root,.agg (c.cells av tv),.int .i64 p,.agg #[.int .i64 R.L[p].ty,.int .i64 R.L[p].base,.int .i64 R.L[p].bits,.int .i64 R.L[p].rights,.int .i64 R.L[p].badge,.int .i64 R.L[p].mark]] w fun e' w'=>
  e'=.returned (.int .i64 (bw R root c p R.L[p]).1)/\∃lv',aj w' kb {R with L:=(bw R root c p R.L[p]).2} {V with lv:=lv'}/\Fr w w' (V.fp kb)/\(∀k,lv'.ownBlock=some k->V.lv.ownBlock=some k\/w.heap.size<=k):=by
 obtain ⟨g,cap,hlv,hcap,hglt,e0,e1,e2,e3,e4,e5,e6,e7,e8⟩:=fe h p hp;have hcl:=h.cl;rw [hlv] at hcl;clear hlv;have hklt:kb<w.heap.size:=World.block_lt_of_cell? w _ hcl;unfold Cl.cells;by_cases ht:¬R.L[p].ty=3
 ·have HC:Hid (bw R root c p R.L[p]=(3,R.L)):=if_pos (.inr ⟨hk,ht⟩);rw [hk];have ht':(R.L[p].ty != 3)=true:=by simpa using ht
  clear ht;go_enter Tryz.func86,Tryz.ntmps86
  go_wp2_with fail
  go_ret;exact jy h (((Fr.refl _ _).alloc _).alloc _) HC.out
 have ht':(R.L[p].ty != 3)=false:=by simpa using ht
 have c1:¬(c.kind=2/\R.L[p].ty=1\/c.kind=3/\R.L[p].ty≠3):=by rw [hk];simp;omega
 clear ht;by_cases hbd:¬R.L[p].badge=0
 ·have HC:Hid (bw R root c p R.L[p]=(5,R.L)):=by
   show _=_;unfold bw;rw [if_neg c1,if_pos ⟨hk,hbd⟩]
  rw [hk];have hb':(R.L[p].badge != 0)=true:=by simpa using hbd
  clear hbd c1;go_enter Tryz.func86,Tryz.ntmps86
  go_wp2_with fail
  go_ret;exact jy h (((Fr.refl _ _).alloc _).alloc _) HC.out
 have hb':(R.L[p].badge != 0)=false:=by simpa using hbd
 have c2:¬(c.kind=3/\R.L[p].badge≠0):=by rw [hk];simp;omega
 clear hbd;by_cases hr:(c.rights<0\/7<c.rights)\/(c.badge<1\/65535<c.badge)
 ·have HC:Hid (bw R root c p R.L[p]=(7,R.L)):=by
   show _=_;unfold bw;rw [if_neg c1,if_neg c2,if_pos (by rw [hk];simp;omega)]
  rw [hk];clear c1 c2;by_cases hr1:c.rights<0
  ·go_enter Tryz.func86,Tryz.ntmps86
   go_wp2_with fail
   go_ret;exact jy h (((Fr.refl _ _).alloc _).alloc _) HC.out
  by_cases hr2:7<c.rights
  ·go_enter Tryz.func86,Tryz.ntmps86
   go_wp2_with fail
   go_ret;exact jy h (((Fr.refl _ _).alloc _).alloc _) HC.out
  by_cases hr3:c.badge<1
  ·clear hr;go_enter Tryz.func86,Tryz.ntmps86
   go_wp2_with fail
   go_ret;exact jy h (((Fr.refl _ _).alloc _).alloc _) HC.out
  ·have hr4:65535<c.badge:=by omega
   clear hr;go_enter Tryz.func86,Tryz.ntmps86
   go_wp2_with fail
   go_ret;exact jy h (((Fr.refl _ _).alloc _).alloc _) HC.out
 have hb0:1<=c.badge:=by omega
 have hb1:c.badge<=65535:=by omega
 have hr0:0<=c.rights:=by omega
 have hr1:c.rights<=7:=by omega
 have HC:Hid (bw R root c p R.L[p]=match bk R.L R.N root c.to with
  | none=>(2,R.L)
  | some (n,i)=>if (R.L.find? (ee n i)).isSome then (4,R.L) else (0,ns R.L p R.L[p].up {R.L[p] with node:=n,index:=i,rights:=gp R.L[p].rights c.rights,badge:=c.badge,up:=0})):=by
  show _=_;unfold bw;rw [if_neg c1,if_neg c2,if_neg (by rw [hk];simp;omega)];simp only [hk];rfl
 rw [hk];clear hr c1 c2;go_enter Tryz.func86,Tryz.ntmps86
 go_wp2_with fail
 generalize hW1:(w.alloc _).alloc _=W1;have hf1:Fr w W1 (fun _=>False):=by rw [<- hW1];exact ((Fr.refl _ _).alloc _).alloc _
 have hs1:W1.heap.size=w.heap.size+2:=by rw [<- hW1];simp
 have hba:W1.heap[w.heap.size]?=some (.cells #[.int .i64 3,av,tv,.int .i64 c.ty,.int .i64 c.bits,.int .i64 c.count,.int .i64 c.rights,.int .i64 c.badge,.int .i64 c.value,.int .i64 c.offset] 41 (0,0)):=by
  rw [<- hW1,heap_alloc_old _ _ (by simp)];exact heap_alloc_new _ _
 have hbh:W1.heap[w.heap.size+1]?=some (.cells #[.int .i64 R.L[p].ty,.int .i64 R.L[p].base,.int .i64 R.L[p].bits,.int .i64 R.L[p].rights,.int .i64 R.L[p].badge,.int .i64 R.L[p].mark] 46 (0,0)):=by
  rw [<- hW1];have:=heap_alloc_new (w.alloc (.cells #[.int .i64 3,av,tv,.int .i64 c.ty,.int .i64 c.bits,.int .i64 c.count,.int .i64 c.rights,.int .i64 c.badge,.int .i64 c.value,.int .i64 c.offset] 41)) (.cells #[.int .i64 R.L[p].ty,.int .i64 R.L[p].base,.int .i64 R.L[p].bits,.int .i64 R.L[p].rights,.int .i64 R.L[p].badge,.int .i64 R.L[p].mark] 46);simpa using this
 clear hW1;have h1:aj W1 kb R V:=h.frame hf1 (fun _ _=>id);refine (mb R.L R.N kb V.lv V.nv tv root c.to W1 hn hm hl h1.cl h1.ll h1.cn h1.lnn hb (htv.fr hf1 (fun _ _=>id))).mono ?_;rintro e w2 ⟨rfl,q,rfl⟩;cases hfi:bk R.L R.N root c.to with
 | none=>
  rw [hfi] at HC;dsimp only [ts];go_wp2;go_ret;exact jy h (hf1.drewN q) HC.out
 | some ni=>
  obtain ⟨n,ix⟩:=ni;rw [hfi] at HC;clear hfi;dsimp only [ts];go_wp2_with fail
  have h2:aj (W1.drewN q) kb R V:=h1.frame ((Fr.refl _ _).drewN q) (fun _ _=>id);refine (jj R.L kb V.lv n ix _ hn h2.cl h2.ll).mono ?_;rintro e w3 ⟨rfl,rfl⟩;rcases j6 (ee n ix) R.L with ⟨hx,hfi⟩ | ⟨x,hx',hx,hfi,_⟩
  ·unfold atI;rw [hx];rw [hfi] at HC;have k0:=aa (o:=0) hba rfl;have k6:=aa (o:=6) hba rfl;have k7:=aa (o:=7) hba rfl;obtain ⟨g0,g1,g2,g3,g4,g5⟩:=aa_ hbh;have gz:W1.frozen? ⟨w.heap.size+1,3,none⟩=false:=ab hbh;have gz4:W1.frozen? ⟨w.heap.size+1,4,none⟩=false:=ab hbh;go_wp2_with fail
   have hf2:Fr w (((W1.drewN q).setCell ⟨w.heap.size+1,3,none⟩ (.int .i64 (Go.bits BinOp.and IntKind.i64 R.L[p].rights c.rights))).setCell ⟨w.heap.size+1,4,none⟩ (.int .i64 c.badge)) (fun _=>False):=((hf1.drewN q).setCell (.inr (by omega)) _ _).setCell (.inr (by omega)) _ _;have h3:=h.frame hf2 (fun _ _=>id);refine (au2 R V kb p ⟨n,ix,R.L[p].ty,R.L[p].base,R.L[p].bits,gp R.L[p].rights c.rights,c.badge,R.L[p].mark,0⟩ _ h3 hn hp hu1 hu0).mono ?_;rintro e w4 ⟨rfl,lv',h4,hf4,hlt4⟩;have hf5:Fr w w4 (V.fp kb):=(hf2.mono (fun _=>False.elim)).step hf4 (fun k hk=>.inl hk);have hsz:=hf2.size;clear hf2 h3 hf4;go_wp2;go_ret;exact ⟨by rw [HC.out];rfl,lv',by rw [HC.out];exact h4,hf5,fun k hk=>.inr (Nat.le_trans hsz (hlt4 k hk))⟩
  ·unfold atI;rw [hx];rw [hfi] at HC;have k0:=aa (o:=0) hba rfl;go_wp2;go_ret;exact jy h (hf1.drewN q) HC.out
def ag_ (T:List ej)(n:Int):Int:=
 if n<0 then -(n+1) else match T[(n % T.length).toNat]? with
  | some t=>t.base
  | none=>64
theorem a32 (R:dq)(V:ax)(kb sb:Nat)(n:Int)(w:World)(h:aj w kb R V)(hs:w.cell? ⟨sb,1,none⟩=some (.pointer (some ⟨kb,0,none⟩)))(ho:R.T.length<=900000)
 (hn0:-9223372036854775808<=n) (hn1:n<=9223372036854775807) :
 Calls Tryz.prog 27 #[.pointer (some ⟨sb,0,none⟩),.int .i64 n] w fun e' w'=>e'=.returned (.int .i64 (ag_ R.T n))/\∃q,w'=w.drewN q:=by
 by_cases hneg:n<0
 ·have HB:Hid (ag_ R.T n=-(n+1)):=if_pos hneg;go_enter Tryz.func27,Tryz.ntmps27
  go_wp2;go_ret;exact ⟨by rw [HB.out];rfl,0,rfl⟩
 ·by_cases hT0:R.T.length=0
  ·have HB:Hid (ag_ R.T n=64):=by
    show _=_;unfold ag_;rw [if_neg hneg,List.length_eq_zero_iff.1 hT0];rfl
   obtain ⟨A,cap,hA⟩:∃A cap,V.tv=.slice A 0 cap:=by
    rcases h.t.2 with ⟨e,_⟩ | ⟨g,cap,cur,e,_⟩
    ·exact ⟨none,0,e⟩
    ·rw [hT0] at e;exact ⟨_,cap,e⟩
   have hct:=h.ct;rw [hA] at hct;clear hT0;go_enter Tryz.func27,Tryz.ntmps27
   go_wp2;go_ret;exact ⟨by rw [HB.out];rfl,0,rfl⟩
  have hT:0<R.T.length:=by omega
  have hml:0<=n % (R.T.length:Int):=Int.emod_nonneg _ (by omega);have hmu:n % (R.T.length:Int)<R.T.length:=Int.emod_lt_of_pos _ (by omega);obtain ⟨p,hpn⟩:∃p:Nat,n % (R.T.length:Int)=(p:Int):=⟨(n % (R.T.length:Int)).toNat,by omega⟩;have hp:p<R.T.length:=by omega
  obtain ⟨g,cap,htv,hcap,hglt,t0,t1,t2,t3,t4,t5⟩:=iq h p hp;have hct:=h.ct;rw [htv] at hct;have HB:Hid (ag_ R.T n=R.T[p].base):=by
   show _=_;unfold ag_;rw [if_neg hneg,hpn];simp [hp]
  have hl0:(((R.T.length:Nat):Int)==0)=false:=beq_eq_false_iff_ne.2 (by omega);clear hml hmu htv;go_enter Tryz.func27,Tryz.ntmps27
  go_wp2;go_quiet (fail)
  go_wp2;go_ret;exact ⟨by rw [HB.out];rfl,_,rfl⟩
end Go.Proofs.YtdpjgflemddekaaGreatDoor
