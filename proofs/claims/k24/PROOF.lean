import PyProof.Rows.All
import Wide.All
import OpenK.AllK
import Wide.FinOn
import Lean
import PyProof.EqAt
import PyProof.EqKinds
import PyProof.TupleCall
import PyProof.CollectIter
import PyProof.JoinWalk
import PyProof.StrOps
import PyProof.ListOps
import PyProof.StrLawsJoin
import KE.KRevIter
import PyProof.StrLawsFirst
import PyProof.Rows.StrNews2
import PyProof.StrLawsTight
import PyProof.StrLawsChain
import KE.KIntText
import KE.IntTextLaws
import PyProof.ListStr
import KE.KDictLaws
import KE.KDictList
import PyProof.Rows.SetFrom
import PyProof.FitsReplace
import KE.KEqDict
import PyProof.Rows.SumAny
import PyProof.Rows.CallKwBuiltin
import PyProof.EnumMake
import PyProof.TupleIter
import PyProof.Rows.TupIter
import PyProof.FactsAll.range_2
import PyProof.AutoSeq1
import PyProof.Rows.Range3
import PyProof.ZipIter
import PyProof.Rows.SortRuns
import PyProof.Rows.SortPure
import PyProof.Rows.SortShell
import PyProof.Rows.SortStr
import PyProof.MeetsSeq3
import KE.KSortTup
import KE.KSortKey
import PySem.Challenge.RW_quiltlaw_k24_costs_of_sheets
local macro_rules|`($m:declModifiers def $i:declId $s:optDeclSig $v:declVal)=>do
 if m.raw != (<-`(def x:=0)).raw[0]then Lean.Macro.throwUnsupported
 `(noncomputable def $i $s $v:declVal)
local macro_rules|`($m:declModifiers abbrev $i:declId $s:optDeclSig $v:declVal)=>do
 if m.raw != (<-`(def x:=0)).raw[0]then Lean.Macro.throwUnsupported
 `(noncomputable abbrev $i $s $v:declVal)
local macro_rules|`(command|set_option $o:ident $s:str)=>do
 if o.getId != `tw then Lean.Macro.throwUnsupported
 let n:=s.getString.toList.toArray.map λc=>if c.toNat<92 then c.toNat-35 else c.toNat-36
 let a<-(List.range (n.size/10)).toArray.mapM λi=>let x:=(List.range 10).foldl (λa j=>a*91+n[10*i+j]!) 0;let y:=Lean.mkIdent (.mkSimple s!"tw{x}");`(command|theorem $y:ident:True:=⟨⟩)
 return Lean.mkNullNode a
namespace PySem.W.Fast
set_option tw "Gx$)+z-;6v'mykYRjH8j*j`|:,;FLXES3#u7?PKMHqO=j1lKlz<S,@8m0J836.L9m<00.%:u|IAZ)~6Y$;uGfDD3f9?It$+'SccX-)m70j2j*|D9(Yag_x%a@CF>H:hpA(@r`KRW[$ktDQEK~['x#wF'M$6n4i%FA$>bV2ByXXGN`$V=$;Et,TY's$'xuXEQKv`X~(B=*sU9%O05X:M[6RsvHTowD%QRne,w:uMwzq>&rkK?:(z-kc4e),=SoVNY_IPEG0#;?u'4~+/c/n4.CT4zDb'N3XlWiT%OS26CKKra=X4}J]R3544yfy;^3dNFCi/o<^D%JYMp2B;s_Q=B6dlo4EjHFKF3RJJ}X91R@F<iJqGEZ5CmWs--:qsA#FZg=?@#hu$W;@LY$7^ZLRY5%AAry;L9?@RMc?YH8CzBgs9(.m<lqgL24.LLJE=R8tJBEGHF?c<DteW&2R1#-CAICz$VdLtV$J^CBE)C-30Pc~)gk&bTeAxi)7QR{BHp~9?*t'5cYHKJBu/4)qbMM12;&c}*$/F_D&pyO/8Wp?0}/ay,7>2q9FnV?Jq45&IB(m+ys%9FL&[mq6,.y`8zl(?/Tg;M''cPjdW8pe$&ePdC8Jb'#Zq82p*zF~-ygkot6Cjg<ZuRjpk,Yl1^G//gO{-1?w(C2QBwD9HAs0Z-jSjdGtHR@gV|.xK&Bb]pi(h9J`xjS(-}3W'+=94LrK4n:sfO_<w1+WI/xfW4y-@%($@jb7*M4)L&Rqf4<pvJ@m9|)EL^7p5{4510=KYE8mgqIS7Y$)MR2c`A}*-;3BRX1%x;9[)qV>-UYeRK8x4|ZRa}fFD`=fmpFU+~N)hc`7)[2-MORhD1(rH>&j3/uGUQy),@4=)bc>oa9RGKlC/Bg~=0+xWw9.J_&&Y-3L[N`?J%Jmw#V1;c'BY,S]xy~jM0wH$lz2ji(Kf#ZXg)*uCcB6*@_GhUBeEg5iO2C*A-h}E<d9i{(6Gi#=c/-#*_LD]^e)Pw*k*X=F*B<Q)9f&hjvST+;Dz}KRj$Kb:o89a?T2io3ydS:dA+YA$%/tJ.k,(Q#I_5eV%(N$Lohp,wUA)%-1lP._A+:lLa[qkjE.b$)d=gsl</e~BImM~=Z5yA*Ij@mFN@#b$/HrCT|x+/#X-90rWzO,4BiLo?k,En'h`BDvH<R|$i;n;g9DF?>RG'qxKr@i0PGi]#8'NDCx]hsbHtE~;_+i10y=Hz<sKM~I>,/kL%k;t$+KLB?{hi(fByB}8:sO%^Y4(p(eRR|bDZ(n;i7=4t91c%LK3VjzSKb8(DNDVaYXFi,cb3?CNRoXGYRwz$GVge=xgO5<qm]8#@@6PR-qWn8WEmzFqB}QH%K@;P:W8.%gP&y0,fhA3qorGLl_eB1l?_qSTV4i+<?3zEXBAP%bJy_-Q`6zA5?]+leK3^:qO%xVhg}@&YoA?,m4Oo(/+jejLz{)$75;|1N<[<(gC*2~a0-x*XqvX(K6_V6RB_6&(K7dMn*B(Ft)1m5KS'6CodxZ1/yYYd$g^r4PD./}XC-B'`SqW=/9+EHg5VI&RDSu&?Q1*3qf=b5O0&&V7x76%NWnPjR1r9D.2']dZZF|M^IvlgL%>=3>mR^Ye&1Q>S1%lV$QM;.x5eXh.0Zq1hhp`t:0H`C}S'vwu=JZ;4d>~*j{x]=?W_20JTmoMqG`9qB#d|GKH1}&D8c_AxtFBo?p%|-gbbYKIZ6f?/i])m,U$XJD7tpJ]w*CC}F?DvuH-BC.j^CU3jD1DXx.f,JrP;.ua-ory_%19CiCs+GWuc?Oh<WPl;AKD~Bj)v9:j}>HO_p4DhRv%_X4iJBweQDuK}J<'y*:A|Bt/og<A)21YYPb{FF2,-)k;V.PJ/%jJ1-aWxf+D&q@WTH1en>B^`Fvj;D2D&:[<;l20(LuorxW|_JA:*D=,4s?[g,5TTjOy*VN-CQ]t[}iuy(uZoN:U4;U;^|vr'XWGd3mB44U.lO3.k[WBc19^N)?MoK7e/76/XrS|v6^tLGB4VZa-mM<>3U8MYPb?C6dhigM)xrh-R`UCOa36F*Ne6_P7u]9,PPq*b|<<Z:9iXz54AOE9RLur3XPfeC{a]|b[J(*K8etKT>@hR(g6y'@hS]E/04[zIMIHoI:GGYk;+zY3`**+ecmtFDUoNtdX#2i7cG-}&@NEFI=`^yS(W1?&BBd.[W|<(>w7.4WAZnm3p#T{GWiY,0qOW;={%(I+*aUSEK1*@-tI93^qX=[ATYu-H}pX&4OxMKgF<8f)rZSfth.C4'PCQk:TWc7D,c6m%)|8m$dZ5j~p_b/=]*UPP'3azATa_diQZ)YMj6ok'@uLJ8`$v$]6w'R@l5s9I`@-K)q5>]6O0Bs/h<eb@`Cgg>pNR]1SI7o-7Jd/liI#V228(kmXxHN3HlvD=;ix9(AWQr>b4u}*N_Jyb=]r)?LpG4P@a+NExmy$cuLp+(.LkvLRd1n*ilmf/$zKb.VRHJ^,)bh0vgd$Fu9f8(*h1JS?EH-0$<)<Ny$09,oXz/uG#zY6,Lh,|1]'4MI}rO6LoBH:@6,+{|gk]ADZtS<pf0rA5>b/_frR}(Z{38KRhpH(2'|p]*y<#)V1G*8F+f3,^o1AQQTpDFRh{VULpy3MwZg:(D/5x6-QZ92gzdl9)uf>Vtv<b=pcjL2+kRD$)+m5u5`6K.1I-S%XsfN/Ow.b_^5N%JV]4ZL1nlY=k,/:YLJJYBeD]L'pjk7I^VWB)-<BhC*Q8l7.#BOAtpX*q|DJ-0#XA=;Y}Ij<5KP9uLfkr)Sk2:ht<'D)C2tg9|30t'U$/$jnQb]#:I/RN8~`_(PyX&7MIYU56Jg83CX_:&nhhK1eJ0.=Q8G/)tz,>4Y[HHqjf'6$<<(/1ZvC|G}i'Q,#dio5]9[OeB5^fHl*+Li{=Bi<w)bq0kIEM7}6#8Q4uI`'epl1<xH2F2P-i<sU'Py>#~|_s$^Y*31H:>hm{Q#C{t0FC^+lE6v&tLbWJ}fB:WI#00piK*`ibI_$L@**W[qwyR}<l,jB{p<cAIc63l9UgP-HA1A/J=ei__]BC~93zHClK1RK?X<|l:GD@^I_v-v-,J,S+pZMPy.-eI(itnd'sD4_8K4~cQ?C@I<%G1EV*%L,5YZK(qX2_^n2y^z7`)&0VnR#59I'OW4OMRY;;:R}qH,YuG`9*rT1$+:*7.?,5%Yj@S=Gn,y'RnSOxK<G>=pG0A^+[;Iz&AMk.?R)**rBe_4$`LezLJIY?)zd]5AM#^YGU+_we~lJu3,5&(xX56[/*2YIjIau*9[|b&TbN~E.|?$Ixm6*K,XwmQvVbB9-}%yU%y`srDy1z,25;qD)69c000}8J<.y{^e7p161W'o1~`6}q)+B8.[,YS=3HGc6Nd&Su#xdnD@mx5y/j5eKvF*f28|N)>Z>{)|--$yQjr&^8>rTpNiW_7T'D}i>UG).X3;bJ+Mg7Un&m<PT#x'-@/CK`~9(tJl7~PNbGL7Rs<-?{D=O{n.+dg/.v;.m>8rM>55/[H#0TS8MQJ`Wo$zkAi.$t*o@~XtL$MI:W;jOnvxzOhT$7Z*pjS%5?#XxmDC/[y4DNK{Hpbaio2@oY6XV-lJD28-F[>YlYGM#mwI-'=V$zI~[BlZ&(:UBc9'&`9$N+}X.h##%X%n)sk7Z95IM--~A?;84.7v<{(s%35*DCoPpg/OmzB*xJ>tE@)WCT$OF`pnXR#f:6;h/HWjJCPz4Uq`PKE#1jnAz}l'HIQ5fXnxr4'srtTg)RqI>1A=Gs>1X98@g&=yO;Dt?1Qv~Y;-(*8PY$H47k[[7:`eD4?e:`EG7{ez:CNA1Ru8l+iHoxCBv&*N6}5-Lx0<I[}$J;>Z>>wW;|$1((WM7Y7U1I5XxJ$Tzp8.8IOL7HNt8k(/<,;+Dd{6@+9tBs7BhI2y6DU?gg@u0aZAxN0X=MI<slV}'c<EEeR,?*{|-:;9Q_7wlA<R'*;AvF8~#*=Bi3M1X@fe/MqJ}Pvx6xB-#FwX?xPp7[47]|m7m>&$e3z(sa=Z$kUS,}d$W-8Ku$4A[v=*6HvPsVDdlc:+O>s$gXUy.)F6);$;yx0<F*@;l3>.2/h)?.lh;@GQf}97`xO#M*SA6R%29eJ';BH,lJyi(VsK*B%^HD<Lv>Pya66{3}4hS$VNu.:v30&Q]vkz3IN=d3fbfK.U~K@S*zf%'%*j%1ch,6Dq5+w/kH#BCWg#VpKEr)>6jfLx0lU;%RVnoNYj@TEQ_O6UE|C%-]a;;j+{r2AF:PM_<wGU@pqT'MRg0?19W:1s~6t*242~Y.%9/-%aVk{lW>jwI*TZ$?k.]J2J?z{zBnqy755(ZfjLSeLO<punrlL'&hm0.:|aVDM6)n;xz:*q/xO1_gMtokDzFCM}mp['EJ-TIrzO{y=6HGxo5m6u<L(X?fp2{Q0?qW('GfEdH-)^.j]$?4<YE_DgC:gy(THdW]Fy`RCG1y}d[lE49RPDW(^Mz,$ChjT)_.hJ2P}f-2P9L<L/Q,TWSn;^'TEiq_-|9&.1rK}BoHc*B@*{O5$Gyo@WBPG54yW98@.9sQ;b&S#BZ4|62xI~5hM.oF.-,3#J0Nn*%Pp#*<a1>4d,y|0-8];c~wyiKEESLPVMX_$DGIBJgKSN56SN8&@h^{D/{&lfcL^L+(LGYi%%RY$8v]z_PM$z&pZ1Tk.4xQM<AWa%$X.J6gtPl8|'Y5'J0@_gk4;H#5Cr6@;End<Mt3?+AJK/El:)=}B8D$(cs`Vk|S@K2_5DBmBI4>1]W`{7I6m^0+[E06NAX@I$FE8Pb@*<52~ppN_v_@5#U38meIQ;1s%7haX4<t-)wiA$c40q){Si};Z<fn3b7Q)twxX<(6&@saKm<4%g2:9>Q[e[3t?<c0raO0CpE.?vBk6R?9zjk.({J%/x:yomqB7T?zAR(|c;@}J8m5iuNcC;<&NIKf=5%M#(JzE5Q5e[7g0TyF`eWiBC]PvbdVN=2lq4$myuZ4;a{|DD1'r$+/6zstfom&JL%vbao=^L1DOM=qRp7Q?X*J7eL$,:=AZ{iLWa/6/g&,^qq+JdEdPA/1y[6wM<IY|{eQ$r2lxP1_^+613*)j`_T{M^;{#e'U%d,]-a]p;8tE=]@>Lcnf`9Sv*[2VT:-TJyF.{5-r)2@T+bHdg#,hR1:3je0_@pJj(*vh;U=@A,&ZW@%s:/D1<._3O*4^F3F~1]f&uR]O$$ttaA]0ex3h[g:b8H+U@UhvP8QK1,%u0'j4EaC|6FV[uCZSEP8]kT|(c3PeMMupHd16[PB*n@#&-=75Kvy|Bo=LPm;D%UO`q`FW>&cs?X]1E42qQ_8WSyk(AU}rh3sP%C2$+F'kMT'=5l8|&6pCqaE&SJco5YX19rJ.JuE&_<,D(/PUQ,=38/g&?)[yN-#@7b5>ZeeK63T]2ZJk(00NfI&?-@~(C?&Fn/VH}zAHDhI*0H6y/x0EhK&3'c1hhK,wI&(a)=v'r3JI_8K4Y_w&UD8v@:A`;Z8ms~K(i/jPPz'^1Wo4^r{/4=&VB2?A@aDL%Gc*en<]OBL<3G8<w44a6dnW7E>([6D%X+bdPQX#$5sHZPHbVNAp2qe>0<}e,'.&})M52m.KtE;sU+93*r2gK|k'AG9wzdk9&G6f:Z)tfbu4ia@>0A)IHU`A.bDs&5t:pW,,'`RVa8~0L*>$_RhML93]i[egAoT(82yQv.pq`nIc9N}wtn67$O__0W8cE$&rgn_2@e)RLH7-*~]xgzDHq-qREl5K7^R^/Kl5Y)LHuC$jZ(#09TFyY8kYOOIe/0)JI9<oBRMEP]_y`q(5^*476Pv%5_[0ZfV#s30)%<#>{9f&*JqZ'qfRGc>h-,]lQhb?Ja9Xzu)FdUB+Qikiomy@:bck0c`qGf0f+N#P@,{b?c$c|JkG^m'ejMHeT:*/+X%BV=5o2,?e*5z?sU6%*c>.R7bqR2GtpX^)-g0V/<;f@0&x:c=jH^FGU]zTH>HDfs_;D]@k*o]Senj?&hP.{4V.h{<pd^ig[<|[,*.C28@RUV6WR)=F+Z|G6|c&)Wv@k@->g5BzcHul?B7_/N-MdgDz'^L?^'tyBE|drw:d6N>k@ZUOe7ke=7hj4(t;gd0U33BN2Zl[8i2LmJ--%.GCS~+VxY#^Dc-3rF;^vS6m4w<8#^W*#h&bP)^&22Df8y$}6:Rw(3+)KFP_ax3Fm~<;4`=@F+AR<JSB0FEk^U7q$m5qEq|SeG.@bVGoqv?0bx_XEYyiu$(X$U)A`E/u|{`Z)^p52d&Sh5)bp|us[(}dGvK-~P1'VhIxiq.69JBE+:I:58)tA{ENs339?k'_3Ou=UAR9Cb33nqrQz/)w*_~:Q.Gny:>?Np}bXO=v,<e[e.EHw@+E24OBT.cS,7o<PHpz4O(8?6>:`(*H8gio$fEFq(@;}I$axH;P'QR(M{uvjr.*9Q^^`3a&&fC3Tcth/<6NmZmu,tm9MgXK1P-?~k((Oo6P.N^NAs,rHoGc@lD+,Z32eh00A0`Ei}SQcR$cNU'kz#@A-5^<irUZdz::d1Db|>zZ7e1kB*OwbG/ndQ1yEW57-K]qjY{-aVL&U7&xo|Dz>*;vy$iaOy=_6}V0ng&W*R1:.bjKV+72k<Rr_:sY1*}yM)+*=PK+*m5y>jUu5$5E_Eq|G^)bdACllI*A@pO}~GNP]xL@_j=;NEMe:3]z36E5W-89Nu]EQ82*.fgOA1yfP:"
end PySem.W.Fast
theorem zz0(h:1=1:=by rfl):1=1:=h
theorem zz1(h:1=1:=by decide):1=1:=h
theorem zz2(h:1=1:=by decide +kernel):1=1:=h
theorem zz3(h:1=1:=by first | exact .inl rfl | exact .inr rfl | assumption):1=1:=h
theorem zz4(h:1=1:=by intro _;rfl):1=1:=h
theorem zz5(h:1=1:=by first | exact Or.inl rfl | exact Or.inr (Or.inl rfl) | exact Or.inr (Or.inr rfl)):1=1:=h
local macro_rules|`(tactic|omega)=>`(tactic|first|lia|omega +splitDisjunctions)
set_option linter.all false
set_option Elab.async false
set_option maxRecDepth 100000
abbrev KF:=PySem.Value->PySem.Shared->Prop
abbrev KG:=PySem.W.Frag
abbrev KH:=List (PySem.Addr×PySem.Obj)
abbrev KI:=List Nat
abbrev KJ:=PySem.Shared
abbrev KL:=List PySem.Value
abbrev KM:=List PySem.Addr
abbrev KN:=PySem.Str->Option PySem.Value
abbrev KO:=PySem.FuncData
abbrev KP:=PySem.Program
abbrev KQ:=List PySem.Str
abbrev KR:=PySem.Around
abbrev KS:=PySem.World
abbrev KU:=Option PySem.Addr
abbrev KW:=List PySem.Expr
local macro_rules|`(term|⋯)=>`(by omega)
local macro_rules|`(term|nofun)=>`(by decide)
abbrev JJ:=@List.getElem?_eq_getElem
abbrev JK:=@List.getElem?_eq_some_iff
abbrev JL:=@PySem.Heap.get?_push_of_some
abbrev JM:=@List.length_map
abbrev JN:=@List.mem_singleton
abbrev JO:=@List.getElem?_map
abbrev JP:=@List.mem_of_getElem?
abbrev JQ:=@PySem.Heap.get?_update_other
abbrev JR:=@PySem.Heap.get?_push_size
abbrev JS:=@List.size_toArray
abbrev JT:=@List.getElem_mem
abbrev JU:=@Int.toNat_natCast
abbrev JV:=@PySem.Heap.get?_update_self
abbrev JW:=@List.length_cons
abbrev JX:=@List.map_append
abbrev JY:=@List.mem_append
abbrev JZ:=@List.map_map
abbrev J0:=@List.mem_cons
abbrev J1:=@List.mem_cons_of_mem
abbrev J2:=@List.length_reverse
abbrev J3:=@Nat.lt_of_lt_of_le
abbrev J4:=@Nat.ne_of_lt
abbrev J5:=@List.getElem?_append_right
abbrev J6:=@List.getElem?_append_left
abbrev J7:=@List.length_append
abbrev J8:=@Nat.le_refl
abbrev J9:=@Nat.zero_le
abbrev J_:=@Bool.false_ne_true
abbrev J':=@PySem.Heap.lt_size
abbrev Ka:=@Option.map_eq_some_iff
abbrev Kb:=@List.getElem?_cons_succ
abbrev Kc:=@List.map_cons
abbrev Kd:=@Nat.le_trans
abbrev Ke:=@Nat.lt_irrefl
abbrev Kf:=@Nat.lt_succ_self
abbrev Kg:=@List.append_nil
abbrev Kh:=@List.append_assoc
abbrev Ki:=@List.getElem?_set_self
abbrev Kj:=@List.take_length
abbrev Kk:=@List.length_take
abbrev Kl:=@List.length_drop
abbrev Km:=@List.reverse_append
abbrev Kn:=@List.reverse_reverse
abbrev Ko:=@Int.natCast_add
abbrev Kq:=@Nat.lt_of_le_of_lt
abbrev Ks:=@List.length_eq_zero_iff
abbrev Kt:=@List.mem_map
abbrev Ku:=@List.all_eq_true
abbrev Kv:=@Nat.add_le_add_left
abbrev Kw:=@List.getElem_toArray
abbrev Kx:=@List.nil_append
abbrev Kz:=@Int.emod_nonneg
abbrev KA:=@Int.toNat_of_nonneg
abbrev KC:=@Nat.min_eq_left
abbrev KD:=@List.drop_zero
namespace L2
open PySem PySem.Spec PyProof.Rows
abbrev cC:=Sum Int Str
def nA:cC->Value->Bool
 | .inl k,v=>Value.isInt k v
 | .inr x,v=>Value.isStrOf x v
def GV(w:KS):cC->Int
 | .inl k=>hashInt k
 | .inr x=>hashStr w x
theorem bV:∀{k:cC} {v:Value},nA k v=true->(∃i t,k=Sum.inl i/\v=Value.int i t)\/(∃x t,k=Sum.inr x/\v=Value.str x t)
 | .inl i,v,h=>by
  obtain⟨t,e⟩:=Value.isInt_shape (k:=i) (v:=v) h;exact .inl ⟨i,t,rfl,e⟩
 | .inr x,v,h=>by
  obtain⟨t,e⟩:=Value.isStrOf_shape (x:=x) (v:=v) h;exact .inr ⟨x,t,rfl,e⟩
theorem yA(i:Int)(t:Tok):nA (.inl i) (.int i t)=true:=by simp[nA,Value.isInt]
theorem yV(x:Str)(t:Tok):nA (.inr x) (.str x t)=true:=by simp[nA,Value.isStrOf]
theorem EX(a b:Int):decide ((Sum.inl a:cC)=Sum.inl b)=(a==b):=by
 by_cases e:a=b
 ·subst e;simp
 ·have h:¬ (Sum.inl a:cC)=Sum.inl b:=λq=>e (Sum.inl.inj q)
  rw[decide_eq_false h];exact(beq_eq_false_iff_ne.mpr e).symm
theorem EV(a b:Str):decide ((Sum.inr a:cC)=Sum.inr b)=decide (a=b):=by
 by_cases e:a=b
 ·subst e;simp
 ·have h:¬ (Sum.inr a:cC)=Sum.inr b:=λq=>e (Sum.inr.inj q)
  rw[decide_eq_false h,decide_eq_false e]
theorem D'(a:Int)(b:Str):decide ((Sum.inl a:cC)=Sum.inr b)=false:=decide_eq_false (λq=>nomatch q)
theorem EE(a:Str)(b:Int):decide ((Sum.inr a:cC)=Sum.inl b)=false:=decide_eq_false (λq=>nomatch q)
def bM(prog:KP)(w:KS):PySem.KeyKind prog w cC where
 is:=nA
 hash:=GV w
 inj:=λv a b ha hb=>by
  rcases bV ha with⟨i,t,rfl,rfl⟩ | ⟨x,t,rfl,rfl⟩
  ·rcases bV hb with⟨j,u,rfl,e⟩ | ⟨y,u,rfl,e⟩
   ·injection e with e1 _;rw[e1]
   ·exact nomatch e
  ·rcases bV hb with⟨j,u,rfl,e⟩ | ⟨y,u,rfl,e⟩
   ·exact nomatch e
   ·injection e with e1 _;rw[e1]
 byValue:=λk v h=>by
  rcases bV h with⟨i,t,rfl,rfl⟩ | ⟨x,t,rfl,rfl⟩<;>rfl
 pyHash:=λhv h=>by
  rcases bV hv with⟨i,t,rfl,rfl⟩ | ⟨x,t,rfl,rfl⟩
  ·exact wpAny_pyHash_int h
  ·exact wpAny_pyHash_str h
 eqBool:=λhu hv h=>by
  rcases bV hu with⟨i,t,rfl,rfl⟩ | ⟨x,t,rfl,rfl⟩
  ·rcases bV hv with⟨j,u,rfl,rfl⟩ | ⟨y,u,rfl,rfl⟩
   ·rw[EX]at h;exact wpAny_eqBool_int h
   ·rw[D']at h;exact SeqAt.EqAt.int_str i t y u _ _ _ _ h
  ·rcases bV hv with⟨j,u,rfl,rfl⟩ | ⟨y,u,rfl,rfl⟩
   ·rw[EE]at h;exact SeqAt.EqAt.str_int x t j u _ _ _ _ h
   ·rw[EV]at h;exact wpAny_eqBool_str h
 «strs»:=λk x t v h=>by
  rcases bV h with⟨i,u,rfl,e⟩ | ⟨y,u,rfl,e⟩
  ·exact nomatch e
  ·injection e with e1 _
   subst e1;cases v<;>rfl
theorem uw(prog:KP)(w:KS)(i:Int)(t:Tok):(bM prog w).is (.inl i) (.int i t)=true:=yA i t
theorem ur(prog:KP)(w:KS)(x:Str)(t:Tok):(bM prog w).is (.inr x) (.str x t)=true:=yV x t
inductive V where
 |non | bl (b:Bool) | int (i:Int) | str (x:Str) | byt (b:Array UInt8) | flt (b:UInt64) | ref (a:Addr) | ty (n:String)
 deriving DecidableEq
def bf:V->Value->Prop
 | .non,u=>u=Value.none
 | .bl b,u=>u=Value.bool b
 | .int i,u=>∃t,u=Value.int i t
 | .str x,u=>∃t,u=Value.str x t
 | .byt b,u=>∃t,u=Value.bytes b t
 | .flt b,u=>∃t,u=Value.float b t
 | .ref a,u=>u=Value.ref a
 | .ty n,u=>u=Value.type n
abbrev aW:List V->List Value->Prop:=Paired bf
theorem aW.length{xs:List V}{us:KL}(r:aW xs us):xs.length=us.length:=Paired.length r
theorem aW.get:∀{xs:List V} {us:KL} {i:Nat} {x:V},aW xs us->xs[i]?=some x->∃u,us[i]?=some u/\bf x u
 |_,_,_,_,.nil,e=>by simp at e
 |_,_,0,_,.cons r _,e=>by simp at e;subst e;exact⟨_,rfl,r⟩
 |_,_,i+1,x,.cons _ t,e=>by
  obtain⟨u,h1,h2⟩:=aW.get (i:=i) (x:=x) t (by simpa using e);exact⟨u,by simpa using h1,h2⟩
theorem aW.append:∀{xs ys:List V} {us ws:KL},aW xs us->aW ys ws->aW (xs++ys) (us++ws)
 |_,_,_,_,.nil,s=>s
 |_,_,_,_,.cons r t,s=>.cons r (aW.append t s)
theorem aW.take:∀{xs:List V} {us:KL} (n:Nat),aW xs us->aW (xs.take n) (us.take n)
 |_,_,0,_=>.nil
 |_,_,_+1,.nil=>.nil
 |_,_,n+1,.cons r t=>.cons r (aW.take n t)
theorem aW.drop:∀{xs:List V} {us:KL} (n:Nat),aW xs us->aW (xs.drop n) (us.drop n)
 |_,_,0,r=>r
 |_,_,_+1,.nil=>.nil
 |_,_,n+1,.cons _ t=>aW.drop n t
def gO:Option V->Option Value->Prop
 |some v,some u=>bf v u
 |none,none=>True
 |_,_=>False
def KV{κ:Type}:List (κ×V)->List (κ×Value)->Prop:=Paired fun(p:κ×V) (q:κ×Value)=>p.1=q.1/\bf p.2 q.2
def kV:cC->V
 | .inl i=>.int i
 | .inr x=>.str x
inductive HO where
  |lst (xs:List V)
  |tup (xs:List V)
  |dK (kvs:List (cC×V)) | dT (kvs:List (List cC×V))
  |set(S:Int->Bool) (n:Nat)
  |ins (C dx:Addr) (fs:List (Str×V))
  |own (x:Addr)
  |xd (fs:List (Str×V))
  |met (f x:Addr)
  |rng (lo hi:Int)
  |frz (o:Obj) (u:HO)
  |tbl (ps:Array Value)
  |ext (φ:Heap->Prop)
abbrev Hp:=Addr->Option HO
def aC(H:Hp)(a:Addr)(o:HO):Hp:=λb=>if b=a then some o else H b
theorem ae{H:Hp}{a:Addr}{o:HO}:aC H a o a=some o:=by unfold aC;rw[if_pos rfl]
theorem ai{H:Hp}{a b:Addr}{o:HO}(h:b≠a):aC H a o b=H b:=by unfold aC;rw[if_neg h]
theorem j4{H:Hp}{a:Addr}{o u:HO}:aC (aC H a o) a u=aC H a u:=by
 funext b;unfold aC;split<;>rfl
theorem p_{H:Hp}{a b:Addr}{o u:HO}(h:H a=some o)(h':H b=some u)(d:o≠u):a≠b:=by
 intro e;subst e;rw[h]at h';exact d (Option.some.inj h')
theorem av{H:Hp}{a b:Addr}{o:HO}(h:H a=some o)(h':H b=none):a≠b:=by
 intro e;subst e;rw[h]at h';cases h'
section
variable (P:KP)(w:KS)
def bN(H:Hp)(h:Heap)(a:Addr):HO->Prop
 | .lst xs=>xs.length<=sizeLine/\∃(its:KL) (n:Nat),aW xs its/\h.get? a=some {cls:=.type "list",data:=.seq its.toArray n}
 | .tup xs=>xs.length<=sizeLine/\∃its:List Value,aW xs its/\IsTup h a its.toArray
 | .dK kvs=>kvs.length<=sizeLine/\(a==sysModules)=false/\∃vs,KV kvs vs/\h.DictOf (bM P w) a vs
 | .dT kvs=>kvs.length<=sizeLine/\(a==sysModules)=false/\∃xs:List (List cC×Addr×Value),
   Paired (fun(p:List cC×V) (q:List cC×Addr×Value)=>p.1=q.1/\H q.2.1=some (.tup (p.1.map kV))/\bf p.2 q.2.2) kvs xs /\
   ∃o es ep,h.get? a=some o/\o.ExactDict/\o.data=.dict es ep/\es.toList=xs.map (entryOfKey (tupleKind (bM P w)))/\(xs.map (·.1)).Nodup
 | .set S n=>h.SetOf (intKind P w) a S n
 | .ins C dx fs=>H dx=some (.own a)/\fs.length<=1000/\dx≠a/\h.get? a=some (PySem.W.instObj C dx) /\
   ∃mA,h.Ns1 dx mA/\(∀f,gO (fs.lookup f) (mA f))/\PySem.Within mA (fs.map (·.1))
 | .own _=>∃o,h.get? a=some o
 | .xd fs=>∃mA,h.Ns1 a mA/\∀f,gO (fs.lookup f) (mA f)
 | .rng lo hi=>∃t u v,h.get? a=some {cls:=.type "range",data:=.fields #[.int lo t,.int hi u,.int 1 v]}
 | .frz o u=>h.get? a=some o/\bN H h a u
 | .tbl ps=>h.get? a=some {cls:=.none,data:=.fields ps}
 | .met f x=>h.get? a=some (PySem.W.methodObj (.ref f) (.ref x))
 | .ext φ=>φ h/\(∃o,h.get? a=some o)/\∀h1 h2:Heap,φ h1->(∀o,h1.get? a=some o->h2.get? a=some o)->φ h2
def je(H:Hp)(h:Heap):Prop:=∀a o,H a=some o->bN P w H h a o
end
section
variable {P:KP}{w:KS}{H H':Hp}{h h':Heap}{a:Addr}{o:HO}
theorem bN.lt(x:bN P w H h a o):a<h.objs.size:=by
 cases o with
 |lst xs=>obtain⟨_,_,_,_,e⟩:=x;exact J' e
 |tup xs=>obtain⟨_,_,_,p⟩:=x;exact p.lt
 |dK kvs=>obtain⟨_,_,_,_,o,_,_,e,_⟩:=x;exact J' e
 |dT kvs=>obtain⟨_,_,_,_,o,_,_,e,_⟩:=x;exact J' e
 |set S n=>obtain⟨o,_,_,_,e,_⟩:=x;exact J' e
 |ins C dx fs=>obtain⟨_,_,_,e,_⟩:=x;exact J' e
 |own y=>obtain⟨_,e⟩:=x;exact J' e
 |xd fs=>obtain⟨_,⟨_,_,_,e,_⟩,_⟩:=x;exact J' e
 |rng lo hi=>obtain⟨_,_,_,e⟩:=x;exact J' e
 |frz ob u=>obtain⟨e,_⟩:=x;exact J' e
 |tbl ps=>exact J' (show h.get? a=some _ from x)
 |met f y=>exact J' (show h.get? a=some _ from x)
 |ext φ=>obtain⟨_,⟨_,e⟩,_⟩:=x;exact J' e
theorem Paired.mapP{α β:Type}{F G:α->β->Prop}:∀{l₁:List α} {l₂:List β},Paired F l₁ l₂->(∀a b,F a b->G a b)->Paired G l₁ l₂
 |_,_,.nil,_=>.nil
 |_,_,.cons r t,f=>.cons (f _ _ r) (Paired.mapP t f)
theorem bN.stay(x:bN P w H h a o)(k:∀b u,(b=a\/H b=some (.own a))->h.get? b=some u->h'.get? b=some u)
  (ho:∀b,H b=some (.own a)->H' b=some (.own a)) (ht:∀b xs,H b=some (.tup xs)->H' b=some (.tup xs)):bN P w H' h' a o:=by
 induction o with
 |lst xs=>obtain⟨z,its,n,r,e⟩:=x;exact⟨z,its,n,r,k _ _ (.inl rfl) e⟩
 |tup xs=>obtain⟨z,its,r,ob,e,c⟩:=x;exact⟨z,its,r,ob,k _ _ (.inl rfl) e,c⟩
 |dK kvs=>obtain⟨z,y,vs,r,ob,es,ep,e,c⟩:=x;exact⟨z,y,vs,r,ob,es,ep,k _ _ (.inl rfl) e,c⟩
 |dT kvs=>
  obtain⟨z,y,xs,r,ob,es,ep,e,c⟩:=x;exact⟨z,y,xs,Paired.mapP r λp q z=>⟨z.1,ht _ _ z.2.1,z.2.2⟩,ob,es,ep,k _ _ (.inl rfl) e,c⟩
 |set S n=>obtain⟨ob,es,ep,t,e,c⟩:=x;exact⟨ob,es,ep,t,k _ _ (.inl rfl) e,c⟩
 |ins C dx fs=>
  obtain⟨d,z,ne,e,mA,⟨od,es,ep,e2,c⟩,r⟩:=x;exact⟨ho _ d,z,ne,k _ _ (.inl rfl) e,mA,⟨od,es,ep,k _ _ (.inr d) e2,c⟩,r⟩
 |own y=>obtain⟨ob,e⟩:=x;exact⟨ob,k _ _ (.inl rfl) e⟩
 |xd fs=>obtain⟨mA,⟨od,es,ep,e,c⟩,r⟩:=x;exact⟨mA,⟨od,es,ep,k _ _ (.inl rfl) e,c⟩,r⟩
 |rng lo hi=>obtain⟨t,u,v,e⟩:=x;exact⟨t,u,v,k _ _ (.inl rfl) e⟩
 |frz ob u ih=>obtain⟨e,q⟩:=x;exact⟨k _ _ (.inl rfl) e,ih q⟩
 |tbl ps=>
  have e:h.get? a=some {cls:=.none,data:=.fields ps}:=x;show h'.get? a=some {cls:=.none,data:=.fields ps};exact k a _ (.inl rfl) e
 |met f y=>
  have e:h.get? a=some (PySem.W.methodObj (.ref f) (.ref y)):=x;show h'.get? a=some (PySem.W.methodObj (.ref f) (.ref y));exact k a _ (.inl rfl) e
 |ext φ=>obtain⟨p,⟨o,e⟩,st⟩:=x;exact⟨st _ _ p λo q=>k _ _ (.inl rfl) q,⟨o,k _ _ (.inl rfl) e⟩,st⟩
theorem je.lt(x:je P w H h)(e:H a=some o):a<h.objs.size:=(x a o e).lt
theorem je.fresh(x:je P w H h)(e:h.objs.size<=a):H a=none:=by
 cases q:H a with
 |none=>rfl
 |some u=>exact absurd (J3 (x.lt q) e) (Ke _)
theorem je.kept(x:je P w H h)(k:∀b u,h.get? b=some u->h'.get? b=some u):je P w H h':=λa o e=>
 (x a o e).stay (λb u _ q=>k b u q) (λ_ q=>q) λ_ _ q=>q
theorem je.laid(x:je P w H h)(k:∀b u,h.get? b=some u->h'.get? b=some u)(hp:h.objs.size<=a)(new:bN P w (aC H a o) h' a o):je P w (aC H a o) h':=λb u e=>by
 have hn:=x.fresh hp
 by_cases hb:b=a
 ·subst hb;rw[ae]at e;cases e;exact new
 ·rw[ai hb]at e
  exact(x b u e).stay (λc v _ q=>k c v q) (λc q=>by rw[ai (av q hn)];exact q) λc xs q=>by rw[ai (av q hn)];exact q
end
def Rd(H:Hp)(a:Addr)(u:HO):Prop:=H a=some u\/∃o,H a=some (.frz o u)
theorem Rd.ok{P:KP}{w:KS}{H:Hp}{h:Heap}{a:Addr}{u:HO}(r:Rd H a u)(x:je P w H h):bN P w H h a u:=by
 rcases r with r | ⟨o,r⟩
 ·exact x a u r
 ·obtain⟨_,q⟩:=x a _ r
  exact q
def FX:Option HO->Prop
 |some (.lst _)=>True
 |some (.dK _)=>True
 |some (.dT _)=>True
 |some (.set _ _)=>True
 |some (.ins _ _ _)=>True
 |some (.ext _)=>True
 |_=>False
section
variable {P:KP}{w:KS}{H:Hp}{h h':Heap}{x e:Addr}{o':HO}
theorem je.write(ok:je P w H h)(mu:FX (H x))(he:e=x\/H e=some (.own x))(k:∀b u,b≠e->h.get? b=some u->h'.get? b=some u)(heo:∃u,h'.get? e=some u)
  (new:bN P w (aC H x o') h' x o'):je P w (aC H x o') h':=λb u q=>by
 have nown:∀c y,H c=some (.own y)->c≠x:=λc y r z=>by subst z;rw[r]at mu;exact mu
 have ntup:∀c xs,H c=some (.tup xs)->c≠x:=λc xs r z=>by subst z;rw[r]at mu;exact mu
 by_cases hb:b=x
 ·subst hb;rw[ae]at q;cases q;exact new
 ·rw[ai hb]at q
  by_cases hbe:b=e
  ·have q':H b=some (.own x):=by
    rcases he with z | z
    ·exact absurd (hbe.trans z) hb
    ·rw[hbe];exact z
   rw[q]at q';cases q'
   obtain⟨v,hv⟩:=heo;exact⟨v,by rw[hbe];exact hv⟩
  ·refine(ok b u q).stay (λc v hc r=>k c v ?_ r) (λc r=>by rw[ai (nown c b r)];exact r) λc xs r=>by rw[ai (ntup c xs r)];exact r
   rcases hc with rfl | hc
   ·exact hbe
   ·rintro rfl
    rcases he with z | z
    ·exact nown c b hc z
    ·rw[hc]at z;cases z;exact hb rfl
end
structure Un(fs ex:KM)(H H':Hp)(h h':Heap):Prop where
 keep:∀b o,h.get? b=some o->H b=none->b∉fs->b∉ex->h'.get? b=some o
 slot:∀b o,h.get? b=some o->H b=none->b∈fs->b∉ex->∃sl,h'.get? b=some {o with slots:=sl}
 free:∀b o,h.get? b=some o->H b=none->b∉ex->H' b=none
 there:∀b o,h.get? b=some o->b∉ex->∃o',h'.get? b=some o'
 tups:∀b xs,H b=some (.tup xs)->H' b=some (.tup xs)
 frzs:∀b o u,H b=some (.frz o u)->H' b=some (.frz o u)
 tbls:∀b ps,H b=some (.tbl ps)->∃more,H' b=some (.tbl (ps++more))
section
variable {fs fs' ex ex':KM}{H H1 H2:Hp}{h h1 h2 h':Heap}{a x e:Addr}{o:HO}
theorem Un.any(u:Un fs ex H H1 h h1){b:Addr}{ob:Obj}(q:h.get? b=some ob)(n:H b=none)(hx:b∉ex):∃sl,h1.get? b=some {ob with slots:=sl}:=by
 by_cases hb:b∈fs
 ·exact u.slot b ob q n hb hx
 ·exact⟨ob.slots,u.keep b ob q n hb hx⟩
theorem Un.kept(k:∀b u,h.get? b=some u->h'.get? b=some u):Un fs ex H H h h':=
 ⟨λb ob q _ _ _=>k b ob q,λb ob q _ _ _=>⟨ob.slots,k b ob q⟩,λ_ _ _ n _=>n,λb ob q _=>⟨ob,k b ob q⟩,λ_ _ q=>q,λ_ _ _ q=>q,λ_ ps q=>⟨#[],by rw[q];simp⟩⟩
theorem Un.refl:Un fs ex H H h h:=Un.kept λ_ _ q=>q
theorem Un.laid(k:∀b u,h.get? b=some u->h'.get? b=some u)(hp:h.objs.size<=a)(hn:H a=none):Un fs ex H (aC H a o) h h' where
 keep:=λb u q _ _ _=>k b u q
 slot:=λb u q _ _ _=>⟨u.slots,k b u q⟩
 free:=λb u q n _=>by rw[ai (J4 (J3 (J' q) hp))];exact n
 there:=λb u q _=>⟨u,k b u q⟩
 tups:=λb xs q=>by rw[ai (av q hn)];exact q
 frzs:=λb u xs q=>by rw[ai (av q hn)];exact q
 tbls:=λb ps q=>⟨#[],by rw[ai (av q hn),q];simp⟩
theorem Un.write(mu:FX (H x))(he:e=x\/H e=some (.own x))(k:∀b u,b≠e->h.get? b=some u->h'.get? b=some u)(heo:∃u,h'.get? e=some u):Un fs ex H (aC H x o) h h':=by
 have hx:∀b,H b=none->b≠x:=λb n z=>by subst z;rw[n]at mu;exact mu
 have hb:∀b,H b=none->b≠e:=λb n z=>by
  subst z;rcases he with r | r
  ·exact hx b n r
  ·rw[n]at r;cases r
 have hm:∀b u,H b=some u->¬ FX (some u)->b≠x:=λb u q nm z=>by subst z;rw[q]at mu;exact nm mu
 refine⟨λb u q n _ _=>k b u (hb b n) q,λb u q n _ _=>⟨u.slots,k b u (hb b n) q⟩,λb u q n _=>by rw[ai (hx b n)];exact n,λb u q _=>?_,
  λb xs q=>by rw[ai (hm b _ q λz=>z)];exact q,λb u xs q=>by rw[ai (hm b _ q λz=>z)];exact q,λb ps q=>⟨#[],by rw[ai (hm b _ q λz=>z),q];simp⟩⟩
 by_cases hbe:b=e
 ·subst hbe;exact heo
 ·exact⟨u,k b u hbe q⟩
end
def F9(h:Heap)(H:Hp):List Addr:=(List.range h.objs.size).filter λa=>(H a).isSome
def sR(h:Heap)(H:Hp):Heap:=PySem.W.hideAll h (F9 h H)
theorem zy(h:Heap)(H:Hp):(sR h H).objs.size=h.objs.size:=PySem.W.hideAll_size _ _
theorem AS{h:Heap}{H:Hp}{b:Addr}{o:Obj}(e:h.get? b=some o)(n:H b=none):(sR h H).get? b=some o:=
 PySem.W.hideAll_get _ e λhm=>by
  have q:(H b).isSome=true:=(List.mem_filter.mp hm).2;rw[n]at q;simp at q
theorem Dc{h:Heap}{H:Hp}{b:Addr}{o:Obj}(e:(sR h H).get? b=some o):h.get? b=some o/\H b=none:=by
 have e':h.get? b=some o:=PySem.W.of_hideAll (F9 h H) e;refine⟨e',?_⟩;cases q:H b with
 |none=>rfl
 |some x=>
  have hm:b∈F9 h H:=List.mem_filter.mpr ⟨List.mem_range.mpr (J' e'),by simp[q]⟩;have z:(sR h H).get? b=none:=PySem.W.hideAll_none (F9 h H) hm;rw[z]at e;cases e
def C7(g h:Heap)(L:Addr):List (Addr×Obj):=(List.range h.objs.size).filterMap λa=>if a=L\/(g.get? a).isSome=true then none else(h.get? a).map λo=>(a,o)
def aY(g h:Heap)(L d:Addr):List (Addr×Obj):=(C7 g h L).filter λp=>decide (p.1≠d)
structure Mod(K:KG)(mg:KN)(base:Heap):Prop where
 kin:K.In base
 glob:base.Ns mainGlobals mg
 blt:∃mb,base.Ns builtinsNs mb/\∀x:Str,x≠"__name__"->mb x=bootBuiltins x
 nolimit:base.NoLimit
structure Cx where
 prog:Program
 w:World
 K:PySem.W.Frag
 mg:Str->Option Value
 base:Heap
 A:Around
 N:List Str
 s₀:Shared
 H₀:Hp
 env:Env
 outer:List Env
 stack:List Env
 ex:List Addr
 fn:Str->Bool
 calm:Bool
 pn:List (Addr×Obj)
 xe:Value->Shared->Prop
def lK(l:List Env):List Addr:=l.filterMap (·.frame)
abbrev Cx.fs(X:Cx):List Addr:=lK X.outer
def Gg(sc:Scope)(x:Str):Prop:=sc.names.lookup x=some .local\/sc.names.lookup x=some .cell\/sc.names.lookup x=some .free
def Loc(sc:Scope)(x:Str):Prop:=sc.names.lookup x=some .local\/sc.names.lookup x=some .cell
def GD(env:Env)(h:Heap)(m:KN)(x:Str)(u:Value):Prop:=
 (env.kindOf x=some .local/\m x=some u)\/((env.kindOf x=some .cell\/env.kindOf x=some .free)/\∃c,env.cells.lookup x=some c/\h.IsCell c (some u))
structure Cx.Ok(X:Cx):Prop where
 mod:Mod X.K X.mg X.base
 kind:X.env.scope.kind=.function
 glob:X.env.globals=mainGlobals
 blt:X.env.builtins=builtinsNs
 above:X.s₀.heap.objs.size<=X.env.locals
 inj:∀x y c,X.env.cells.lookup x=some c->X.env.cells.lookup y=some c->x=y
 has:∀x,(X.env.kindOf x=some .cell\/X.env.kindOf x=some .free)->∃c,X.env.cells.lookup x=some c
 cab:∀x c,X.fn x=true->X.env.cells.lookup x=some c->X.s₀.heap.objs.size<=c
 hd:X.calm=true->X.A.handled=none
 frames:X.A.frames=some X.stack
 stk:X.stack=X.outer\/(X.stack=X.env::X.outer/\X.env.frame=some X.env.locals)
 exf:∀b∈X.ex,b≠X.env.locals/\∀x c,X.env.cells.lookup x=some c->c≠b
 bs:∀b o,X.base.get? b=some o->X.s₀.heap.get? b=some o/\X.H₀ b=none
 bsz:X.base.objs.size<=X.s₀.heap.objs.size
 noex:∀b o,X.base.get? b=some o->b∉X.ex
 exfs:∀b∈X.ex,b∉X.fs
 funs:X.s₀.heap.FunFrames X.base X.outer
 frf:∀b∈X.fs,X.H₀ b=none
structure Inv(X:Cx)(pins:KH)(σ:List (Option V))(H:Hp)(s:KJ):Prop where
 ok:X.Ok
 os:s.os=X.s₀.os
 bare:AllBare s.gens
 base:Un X.fs X.ex X.H₀ H X.s₀.heap s.heap
 loc:∃m,s.heap.Ns X.env.locals m/\∀(i:Nat) (x:Str) (v:V),X.N[i]?=some x->σ[i]?=some (some v)->Gg X.env.scope x->∃u,bf v u/\GD X.env s.heap m x u
 cell:∀x c,X.env.cells.lookup x=some c->∃v,s.heap.IsCell c v
 free:H X.env.locals=none
 freeC:∀x c,X.env.cells.lookup x=some c->H c=none
 pin:∀p∈X.pn++pins,s.heap.get? p.1=some p.2/\H p.1=none/\p.1≠X.env.locals/\p.1∉X.fs/\∀v,p.2.data≠.cell v
 hok:je X.prog X.w H s.heap
 len:σ.length=X.N.length
section
variable {X:Cx}{pins:KH}{σ:List (Option V)}{H H':Hp}{s:KJ}{h':Heap}
theorem Cx.Ok.nofr(ok:X.Ok){b:Addr}{o:Obj}(e:X.base.get? b=some o):b∉X.fs:=λhb=>by
 have:=(ok.funs.mem hb).1;rw[e]at this;cases this
theorem Inv.bs(I:Inv X pins σ H s):∀b o,X.base.get? b=some o->s.heap.get? b=some o/\H b=none:=λb o e=>
 ⟨I.base.keep b o (I.ok.bs b o e).1 (I.ok.bs b o e).2 (I.ok.nofr e) (I.ok.noex b o e),I.base.free b o (I.ok.bs b o e).1 (I.ok.bs b o e).2 (I.ok.noex b o e)⟩
theorem Inv.bk(I:Inv X pins σ H s):∀b o,X.base.get? b=some o->s.heap.get? b=some o:=λb o e=>(I.bs b o e).1
theorem Inv.mod(I:Inv X pins σ H s):Mod X.K X.mg X.base:=I.ok.mod
theorem Inv.kIn(I:Inv X pins σ H s):X.K.In s.heap:=I.ok.mod.kin.keeps I.bk
theorem Inv.lt(I:Inv X pins σ H s):X.env.locals<s.heap.objs.size:=let ⟨_,hn,_⟩:=I.loc;hn.lt
theorem Inv.sz(I:Inv X pins σ H s):X.s₀.heap.objs.size<=s.heap.objs.size:=Kd I.ok.above (Nat.le_of_lt I.lt)
theorem Inv.nofs(I:Inv X pins σ H s){a:Addr}(h:s.heap.objs.size<=a):a∉X.fs:=λhb=>by
 obtain⟨_,o,ho,_⟩:=I.ok.funs.mem hb;exact absurd (J3 (J' ho) (Kd I.sz h)) (Ke _)
theorem Inv.cne(I:Inv X pins σ H s):∀x c,X.env.cells.lookup x=some c->c≠X.env.locals:=λx c e z=>by
 obtain⟨v,o,ho,hd⟩:=I.cell x c e;obtain⟨m,⟨o',es,ep,ho',hd',_⟩,_⟩:=I.loc;rw[z,ho']at ho;cases ho;rw[hd']at hd;cases hd
theorem Inv.funs(I:Inv X pins σ H s):s.heap.FunFrames X.base X.outer:=by
 have all:∀(l:List Env),(∀b∈lK l,b∈X.fs)->X.s₀.heap.FunFrames X.base l->s.heap.FunFrames X.base l:=by
  intro l
  induction l with
  |nil=>intro _ _;trivial
  |cons env r ih=>
   intro hs hl;obtain⟨hk,⟨L,o,hf,hn,ho,hd⟩,hr⟩:=hl;have hL:L∈X.fs:=hs L (by unfold lK;rw[List.filterMap_cons,hf];exact List.mem_cons_self);obtain⟨sl,e⟩:=I.base.slot L o ho (I.ok.frf L hL) hL λz=>I.ok.exfs L z hL;exact⟨hk,⟨L,_,hf,hn,e,hd⟩,ih (λb hb=>hs b (by unfold lK;rw[List.filterMap_cons,hf];exact J1 _ hb)) hr⟩
 exact all X.outer (λ_ hb=>hb) I.ok.funs
theorem Inv.stack(I:Inv X pins σ H s):s.heap.FunFrames X.base X.stack:=by
 rcases I.ok.stk with e | ⟨e,hf⟩
 ·rw[e];exact I.funs
 ·rw[e]
  obtain⟨m,hn,_⟩:=I.loc;refine .cons (by rw[I.ok.kind];decide) hf hn ?_ I.funs;exact Heap.get?_none_of_le (Kd I.ok.bsz I.ok.above)
theorem Inv.stkSub(I:Inv X pins σ H s):∀b∈lK X.stack,b∈X.env.locals::X.fs:=λb hb=>by
 rcases I.ok.stk with e | ⟨e,hf⟩
 ·rw[e]at hb;exact J1 _ hb
 ·rw[e]at hb
  unfold lK at hb;rw[List.filterMap_cons,hf]at hb;exact hb
theorem Inv.stkFree(I:Inv X pins σ H s):∀b∈lK X.stack,H b=none:=λb hb=>by
 rcases J0.mp (I.stkSub b hb) with e | hb
 ·rw[e];exact I.free
 ·obtain⟨_,o,ho,_⟩:=I.ok.funs.mem hb
  exact I.base.free b o ho (I.ok.frf b hb) λz=>I.ok.exfs b z hb
theorem Inv.step{g':Array GenState}{t':Nat}{d':Drawn}{ch:KM}(I:Inv X pins σ H s)
  (hch:∀b∈ch,(b∈X.ex\/X.s₀.heap.objs.size<=b)/\b≠X.env.locals/\(∀x c,X.env.cells.lookup x=some c->c≠b)/\∀p∈X.pn++pins,p.1≠b)
  (keep:∀b o,b≠X.env.locals->b∉X.fs->b∉ch->s.heap.get? b=some o->H b=none->h'.get? b=some o)
  (slot:∀b o,b≠X.env.locals->b∈X.fs->b∉ch->s.heap.get? b=some o->H b=none->∃sl,h'.get? b=some {o with slots:=sl}) (free:∀b o,b∉ch->s.heap.get? b=some o->H b=none->H' b=none)
  (there:∀b o,b∉ch->s.heap.get? b=some o->∃o',h'.get? b=some o')
  (tups:∀b xs,H b=some (.tup xs)->H' b=some (.tup xs)) (frzs:∀b o u,H b=some (.frz o u)->H' b=some (.frz o u)) (tbls:∀b ps,H b=some (.tbl ps)->∃more,H' b=some (.tbl (ps++more)))
  (ns:∀m,s.heap.Ns X.env.locals m->h'.Ns X.env.locals m) (hok:je X.prog X.w H' h') (hg:AllBare g') :
  Inv X pins σ H' {s with heap:=h',gens:=g',drawn:=d',toks:=t' }:=by
 have neL:∀b o,X.s₀.heap.get? b=some o->b≠X.env.locals:=λb o e=>J4 (J3 (J' e) I.ok.above);have neC:∀b o,X.s₀.heap.get? b=some o->b∉X.ex->b∉ch:=λb o e hx hb=>by
  rcases(hch b hb).1 with z | z
  ·exact hx z
  ·exact absurd (J3 (J' e) z) (Ke _)
 have cellK:∀x c,X.env.cells.lookup x=some c->∀v,s.heap.IsCell c v->h'.IsCell c v:=λx c e v ⟨o,ho,hd⟩=>by
  have nch:c∉ch:=λz=>(hch c z).2.2.1 x c e rfl
  by_cases hc:c∈X.fs
  ·obtain⟨sl,q⟩:=slot c o (I.cne x c e) hc nch ho (I.freeC x c e)
   exact⟨_,q,hd⟩
  ·exact⟨o,keep c o (I.cne x c e) hc nch ho (I.freeC x c e),hd⟩
 refine⟨I.ok,I.os,hg,⟨λb o e n hb hx=>?_,λb o e n hb hx=>?_,λb o e n hx=>?_,λb o e hx=>?_,λb xs e=>tups b xs (I.base.tups b xs e),λb o xs e=>frzs b o xs (I.base.frzs b o xs e),λb ps e=>?_⟩,?_,λx c e=>?_,?_,λx c e=>?_,λp hp=>?_,hok,I.len⟩
 ·exact keep b o (neL b o e) hb (neC b o e hx) (I.base.keep b o e n hb hx) (I.base.free b o e n hx)
 ·obtain⟨sl,e1⟩:=I.base.slot b o e n hb hx
  obtain⟨sl',e2⟩:=slot b _ (neL b o e) hb (neC b o e hx) e1 (I.base.free b o e n hx);exact⟨sl',e2⟩
 ·obtain⟨o',e1⟩:=I.base.there b o e hx
  exact free b o' (neC b o e hx) e1 (I.base.free b o e n hx)
 ·obtain⟨o',e1⟩:=I.base.there b o e hx
  exact there b o' (neC b o e hx) e1
 ·obtain⟨m1,e1⟩:=I.base.tbls b ps e
  obtain⟨m2,e2⟩:=tbls b _ e1;exact⟨m1++m2,by rw[e2,Array.append_assoc]⟩
 ·obtain⟨m,hn,hl⟩:=I.loc
  refine⟨m,ns m hn,λi x v e1 e2 e3=>?_⟩;obtain⟨u,r,l⟩:=hl i x v e1 e2 e3;refine⟨u,r,?_⟩;rcases l with l | ⟨k,c,e,z⟩
  ·exact .inl l
  ·exact .inr ⟨k,c,e,cellK x c e _ z⟩
 ·obtain⟨v,z⟩:=I.cell x c e
  exact⟨v,cellK x c e v z⟩
 ·obtain⟨m,⟨o,_,_,ho,_⟩,_⟩:=I.loc
  exact free _ o (λz=>(hch _ z).2.1 rfl) ho I.free
 ·obtain⟨v,o,ho,hd⟩:=I.cell x c e
  exact free c o (λz=>(hch c z).2.2.1 x c e rfl) ho (I.freeC x c e)
 ·obtain⟨e,n,ne,nf,d⟩:=I.pin p hp
  have nch:p.1∉ch:=λz=>(hch p.1 z).2.2.2 p hp rfl;exact⟨keep p.1 p.2 ne nf nch e n,free p.1 p.2 nch e n,ne,nf,d⟩
theorem Inv.un{t':Nat}(I:Inv X pins σ H s)(u:Un X.fs [] H H' s.heap h')(hok:je X.prog X.w H' h'):Inv X pins σ H' {s with heap:=h',toks:=t' }:=by
 obtain⟨m,⟨o,es,ep,ho,r⟩,_⟩:=id I.loc;obtain⟨sl,hL⟩:=u.any ho I.free (by simp);exact I.step (g':=s.gens) (d':=s.drawn) (ch:=[]) (λ_ z=>nomatch z) (λb o _ hb _ e n=>u.keep b o e n hb (by simp)) (λb o _ hb _ e n=>u.slot b o e n hb (by simp)) (λb o _ e n=>u.free b o e n (by simp)) (λb o _ e=>u.there b o e (by simp)) u.tups u.frzs u.tbls (λm' hm=>by
  obtain⟨o',es',ep',ho',r'⟩:=hm;rw[ho]at ho';cases ho'
  exact⟨_,es',ep',hL,r'⟩) hok I.bare
theorem Inv.call{g':Array GenState}{t':Nat}{d':Drawn}{ch:KM}(I:Inv X pins σ H s)(u:Un (lK X.stack) ch H H' s.heap h')(hok:je X.prog X.w H' h')(hg:AllBare g')
  (hch:∀b∈ch,(b∈X.ex\/X.s₀.heap.objs.size<=b)/\b≠X.env.locals/\(∀x c,X.env.cells.lookup x=some c->c≠b)/\∀p∈X.pn++pins,p.1≠b) :
  Inv X pins σ H' {s with heap:=h',gens:=g',drawn:=d',toks:=t' }:=by
 obtain⟨m,⟨o,es,ep,ho,r⟩,_⟩:=id I.loc;obtain⟨sl,hL⟩:=u.any ho I.free λz=>(hch _ z).2.1 rfl;exact I.step (ch:=ch) hch (λb o hL hb hc e n=>u.keep b o e n (λz=>(J0.mp (I.stkSub b z)).elim hL hb) hc) (λb o _ _ hc e n=>u.any e n hc) (λb o hc e n=>u.free b o e n hc) (λb o hc e=>u.there b o e hc) u.tups u.frzs u.tbls (λm' hm=>by
  obtain⟨o',es',ep',ho',r'⟩:=hm;rw[ho]at ho';cases ho'
  exact⟨_,es',ep',hL,r'⟩) hok hg
theorem Inv.turned{t':Nat}{it:Addr}(I:Inv X pins σ H s)(k:∀b o,b≠it->s.heap.get? b=some o->h'.get? b=some o)(hn:H it=none)(hL:it≠X.env.locals)
  (h1:it∈X.ex\/X.s₀.heap.objs.size<=it) (h2:∀x c,X.env.cells.lookup x=some c->c≠it) (h3:∀p∈X.pn++pins,p.1≠it):Inv X pins σ H {s with heap:=h',toks:=t' }:=by
 have nit:∀b u,H b=some u->b≠it:=λb u e z=>by rw[z,hn]at e;cases e
 refine I.step (g':=s.gens) (d':=s.drawn) (ch:=[it]) (λb hb=>?_) (λb o _ _ hc e _=>k b o (λz=>hc (by simp[z])) e) (λb o _ _ hc e _=>⟨o.slots,k b o (λz=>hc (by simp[z])) e⟩) (λ_ _ _ _ n=>n)
  (λb o hc e=>⟨o,k b o (λz=>hc (by simp[z])) e⟩) (λ_ _ e=>e) (λ_ _ _ e=>e) (λb ps e=>⟨#[],by rw[e];simp⟩) (λm hm=>?_) (λb u e=>?_) I.bare
 ·have e:b=it:=by simpa using hb
  subst e;exact⟨h1,hL,h2,h3⟩
 ·obtain⟨o,es,ep,ho,r⟩:=hm
  exact⟨o,es,ep,k _ o (Ne.symm hL) ho,r⟩
 ·refine(I.hok b u e).stay (λc v hc q=>k c v ?_ q) (λ_ q=>q) λ_ _ q=>q
  rcases hc with z | z
  ·rw[z];exact nit b u e
  ·exact nit c _ z
theorem Inv.tok(I:Inv X pins σ H s)(t:Nat):Inv X pins σ H {s with toks:=t}:=I.un (h':=s.heap) (t':=t) Un.refl I.hok
theorem Inv.kept{t':Nat}(I:Inv X pins σ H s)(k:∀b u,s.heap.get? b=some u->h'.get? b=some u):Inv X pins σ H {s with heap:=h',toks:=t' }:=I.un (Un.kept k) (I.hok.kept k)
theorem Inv.laid{a:Addr}{o:HO}{t':Nat}(I:Inv X pins σ H s)(k:∀b u,s.heap.get? b=some u->h'.get? b=some u)(hp:s.heap.objs.size<=a)(new:bN X.prog X.w (aC H a o) h' a o) :
  Inv X pins σ (aC H a o) {s with heap:=h',toks:=t' }:=I.un (Un.laid k hp (I.hok.fresh hp)) (I.hok.laid k hp new)
theorem Inv.write{x e:Addr}{o:HO}{t':Nat}(I:Inv X pins σ H s)(mu:FX (H x))(he:e=x\/H e=some (.own x))(k:∀b u,b≠e->s.heap.get? b=some u->h'.get? b=some u)(heo:∃u,h'.get? e=some u)
  (new:bN X.prog X.w (aC H x o) h' x o):Inv X pins σ (aC H x o) {s with heap:=h',toks:=t' }:=I.un (Un.write mu he k heo) (I.hok.write mu he k heo new)
theorem Inv.pins_of{pins':KH}(I:Inv X pins σ H s)(h:∀p∈pins',s.heap.get? p.1=some p.2/\H p.1=none/\p.1≠X.env.locals/\p.1∉X.fs/\∀v,p.2.data≠.cell v):Inv X pins' σ H s:=
 ⟨I.ok,I.os,I.bare,I.base,I.loc,I.cell,I.free,I.freeC,λp hp=>(JY.mp hp).elim (λz=>I.pin p (List.mem_append_left _ z)) (h p),I.hok,I.len⟩
theorem uc{N:KQ}(hN:N.Nodup){i j:Nat}{x:Str}(a:N[i]?=some x)(b:N[j]?=some x):i=j:=by
 obtain⟨h1,e1⟩:=JK.mp a;obtain⟨h2,e2⟩:=JK.mp b;exact(List.getElem_inj hN).mp (e1.trans e2.symm)
theorem pU{M:Model}{A:KR}{E:KF}{i:Nat}{x:Str}{v:V}{u:Value}{Q:Unit->Shared->Prop}(I:Inv X pins σ H s)(hN:X.N.Nodup)(hi:X.N[i]?=some x)(hx:Loc X.env.scope x)(r:bf v u)
  (h:∀s',Inv X pins (σ.set i (some v)) H s'->(∃a,Heap.SameBut a s.heap s'.heap/\(a=X.env.locals\/X.env.cells.lookup x=some a))->Q () s') (hf:autoParam (X.fn x=true\/X.env.scope.names.lookup x=some .local) zz3._auto_1):wpAny M A (storeName X.env x u) Q E s:=by
 obtain⟨m,hn,hl⟩:=id I.loc;have hcls:(X.env.scope.kind==.class||(X.env.scope.kind==.module&&X.env.locals != X.env.globals))=false:=by rw[I.ok.kind];rfl
 have hiσ:i<σ.length:=by rw[I.len];exact(JK.mp hi).1
 have cne:=I.cne;have tracked:∀{a:Addr} {h':Heap},(∃o,s.heap.get? a=some o/\H a=none)->Heap.SameBut a s.heap h'->je X.prog X.w H h':=fun{a h'} ha hs b ob e=>by
  obtain⟨_,_,hfree⟩:=ha;refine(I.hok b ob e).stay (λc w' hc q=>(hs.2 c ?_).trans q) (λ_ q=>q) λ_ _ q=>q;rintro rfl;rcases hc with rfl | hc
  ·rw[hfree]at e;cases e
  ·rw[hfree]at hc;cases hc
 rcases hx with hk | hk
 ·refine wpAny_storeName_local hk hn (λh' hn' hs=>?_) hcls
  obtain⟨oL,_,_,hoL,_⟩:=id hn;refine h _ ⟨I.ok,I.os,I.bare,⟨λb o e n hb hx=>?_,λb o e n hb hx=>?_,I.base.free,λb o e hx=>?_,I.base.tups,I.base.frzs,I.base.tbls⟩,⟨_,hn',λj y v' e1 e2 e3=>?_⟩,λy c e=>?_,I.free,I.freeC,λp hp=>?_,tracked ⟨oL,hoL,I.free⟩ hs,by simpa using I.len⟩ ⟨_,hs,.inl rfl⟩
  ·exact(hs.2 b (J4 (J3 (J' e) I.ok.above))).trans (I.base.keep b o e n hb hx)
  ·obtain⟨sl,e1⟩:=I.base.slot b o e n hb hx
   exact⟨sl,(hs.2 b (J4 (J3 (J' e) I.ok.above))).trans e1⟩
  ·obtain⟨o',e1⟩:=I.base.there b o e hx
   exact⟨o',(hs.2 b (J4 (J3 (J' e) I.ok.above))).trans e1⟩
  ·by_cases hj:j=i
   ·subst hj
    rw[hi]at e1;cases e1
    rw[Ki hiσ]at e2;cases e2;exact⟨u,r,.inl ⟨hk,by simp⟩⟩
   ·rw[List.getElem?_set_ne (Ne.symm hj)]at e2
    obtain⟨u',r',q⟩:=hl j y v' e1 e2 e3;refine⟨u',r',?_⟩;rcases q with⟨k,e⟩ | ⟨k,c,e,z⟩
    ·refine .inl ⟨k,?_⟩
     have:y≠x:=λe=>hj (uc hN e1 (e▸hi));simp[this,e]
    ·exact .inr ⟨k,c,e,z.sameBut hs (cne y c e)⟩
  ·obtain⟨w',z⟩:=I.cell y c e
   exact⟨w',z.sameBut hs (cne y c e)⟩
  ·obtain⟨e,n,ne,nf,d⟩:=I.pin p hp
   exact⟨(hs.2 p.1 ne).trans e,n,ne,nf,d⟩
 ·have hfn:X.fn x=true:=by
   rcases hf with z | z
   ·exact z
   ·rw[z]at hk;cases hk
  obtain⟨c,hc⟩:=I.ok.has x (.inl hk);obtain⟨w',z⟩:=I.cell x c hc;refine wpAny_storeName_cell I.ok.kind hk hc z (λh' hc' hs=>?_);obtain⟨oc,hoc,hocd⟩:=id z;refine h {s with heap:=h' } ⟨I.ok,I.os,I.bare,⟨λb o e n hb hx=>?_,λb o e n hb hx=>?_,I.base.free,λb o e hx=>?_,I.base.tups,I.base.frzs,I.base.tbls⟩,⟨m,hn.sameBut hs (Ne.symm (cne x c hc)),λj y v' e1 e2 e3=>?_⟩,λy c' e=>?_,I.free,I.freeC,λp hp=>?_,tracked ⟨oc,hoc,I.freeC x c hc⟩ hs,by simpa using I.len⟩ ⟨c,hs,.inr hc⟩
  ·exact(hs.2 b (J4 (J3 (J' e) (I.ok.cab x c hfn hc)))).trans (I.base.keep b o e n hb hx)
  ·obtain⟨sl,e1⟩:=I.base.slot b o e n hb hx
   exact⟨sl,(hs.2 b (J4 (J3 (J' e) (I.ok.cab x c hfn hc)))).trans e1⟩
  ·obtain⟨o',e1⟩:=I.base.there b o e hx
   exact⟨o',(hs.2 b (J4 (J3 (J' e) (I.ok.cab x c hfn hc)))).trans e1⟩
  ·by_cases hj:j=i
   ·subst hj
    rw[hi]at e1;cases e1
    rw[Ki hiσ]at e2;cases e2;exact⟨u,r,.inr ⟨.inl hk,c,hc,hc'⟩⟩
   ·rw[List.getElem?_set_ne (Ne.symm hj)]at e2
    obtain⟨u',r',q⟩:=hl j y v' e1 e2 e3;refine⟨u',r',?_⟩;rcases q with q | ⟨k,c',e,z'⟩
    ·exact .inl q
    ·refine .inr ⟨k,c',e,z'.sameBut hs ?_⟩
     rintro rfl;exact hj (uc hN e1 (I.ok.inj _ _ _ e hc▸hi))
  ·by_cases hcc:c'=c
   ·subst hcc;exact⟨_,hc'⟩
   ·obtain⟨w2,z2⟩:=I.cell y c' e
    exact⟨w2,z2.sameBut hs hcc⟩
  ·obtain⟨e,n,ne,nf,d⟩:=I.pin p hp
   refine⟨(hs.2 p.1 ?_).trans e,n,ne,nf,d⟩;intro q;rw[q,hoc]at e;have q':oc=p.2:=Option.some.inj e;exact d w' (by rw[<- q'];exact hocd)
theorem uP{M:Model}{A:KR}{E:KF}{i:Nat}{x:Str}{v:V}{u:Value}{Q:Unit->Shared->Prop}(I:Inv X pins σ H s)(hN:X.N.Nodup)(hi:X.N[i]?=some x)(hx:Loc X.env.scope x)(r:bf v u)
  (h:∀s',Inv X pins (σ.set i (some v)) H s'->Q () s') (hf:autoParam (X.fn x=true\/X.env.scope.names.lookup x=some .local) zz3._auto_1):wpAny M A (storeName X.env x u) Q E s:=
 pU I hN hi hx r (λs' I' _=>h s' I') hf
theorem Inv.call'{s':KJ}{ch:KM}(I:Inv X pins σ H s)(ho:s'.os=s.os)(u:Un (lK X.stack) ch H H' s.heap s'.heap)(hok:je X.prog X.w H' s'.heap)(hg:AllBare s'.gens)
  (hch:∀b∈ch,(b∈X.ex\/X.s₀.heap.objs.size<=b)/\b≠X.env.locals/\(∀x c,X.env.cells.lookup x=some c->c≠b)/\∀p∈X.pn++pins,p.1≠b):Inv X pins σ H' s':=by
 obtain⟨h',g',d',t',o'⟩:=s';have e:o'=s.os:=ho;subst e;exact I.call (g':=g') (t':=t') (d':=d') u hok hg hch
end
abbrev XK:=Value->Option Addr->Hp->Prop
abbrev St:=List (Option V)
abbrev VK:=V->Hp->Prop
abbrev TE:=St->Hp->VK->Prop
abbrev TT:=St->Hp->(Bool->Hp->Prop)->Prop
abbrev TA:=St->Hp->(List V->Hp->Prop)->Prop
structure il where
 nx:St->Hp->Prop
 rt:VK
 bk:St->Hp->Prop:=λ_ _=>False
 ct:St->Hp->Prop:=λ_ _=>False
abbrev TS:=il->St->Hp->Prop
def EP(X:Cx)(pins:KH)(σ:St)(Q:VK)(u:Value)(s':KJ):Prop:=∃v H',Inv X pins σ H' s'/\bf v u/\Q v H'
def TP(X:Cx)(pins:KH)(σ:St)(Q:Bool->Hp->Prop)(b:Bool)(s':KJ):Prop:=∃H',Inv X pins σ H' s'/\Q b H'
def AP(X:Cx)(pins:KH)(σ:St)(Q:List V->Hp->Prop)(us:KL)(s':KJ):Prop:=∃vs H',Inv X pins σ H' s'/\aW vs us/\Q vs H'
def SP(X:Cx)(pins:KH)(D:il)(f:Flow)(s':KJ):Prop:=
 match f with
 | .next=>∃σ' H',Inv X pins σ' H' s'/\D.nx σ' H'
 | .brk=>∃σ' H',Inv X pins σ' H' s'/\D.bk σ' H'
 | .cont=>∃σ' H',Inv X pins σ' H' s'/\D.ct σ' H'
 | .ret u=>∃v σ' H',Inv X pins σ' H' s'/\bf v u/\D.rt v H'
def PE(X:Cx)(e:Expr)(t:TE):Prop:=
 ∀(pins:KH) (s:KJ) (σ:St) (H:Hp) (Q:VK),Inv X pins σ H s->t σ H Q->wpAny (model X.prog X.w) X.A (eval e X.env) (EP X pins σ Q) X.xe s
def PT(X:Cx)(e:Expr)(t:TT):Prop:=
 ∀(pins:KH) (s:KJ) (σ:St) (H:Hp) (Q:Bool->Hp->Prop),Inv X pins σ H s->t σ H Q->wpAny (model X.prog X.w) X.A (isTrue e X.env (eval e X.env)) (TP X pins σ Q) X.xe s
def PW(X:Cx)(e:Expr)(t:TT):Prop:=
 ∀(whole:Sem Value) (pins:KH) (s:KJ) (σ:St) (H:Hp) (Q:Bool->Hp->Prop),Inv X pins σ H s->t σ H Q->wpAny (model X.prog X.w) X.A (isTrue e X.env whole) (TP X pins σ Q) X.xe s
theorem PW.pt{X:Cx}{e:Expr}{t:TT}(h:PW X e t):PT X e t:=h _
def PA(X:Cx)(es:KW)(t:TA):Prop:=
 ∀(pos:Pos) (pins:KH) (s:KJ) (σ:St) (H:Hp) (Q:List V->Hp->Prop),Inv X pins σ H s->t σ H Q->wpAny (model X.prog X.w) X.A (spliced (backTo pos (starEach es X.env))) (AP X pins σ Q) X.xe s
def PS(X:Cx)(st:Stmt)(t:TS):Prop:=
 ∀(pins:KH) (s:KJ) (σ:St) (H:Hp) (D:il),Inv X pins σ H s->t D σ H->wpAny (model X.prog X.w) X.A (exec st X.env) (SP X pins D) X.xe s
def ud(X:Cx)(st:List Stmt)(t:TS):Prop:=
 ∀(pins:KH) (s:KJ) (σ:St) (H:Hp) (D:il),Inv X pins σ H s->t D σ H->wpAny (model X.prog X.w) X.A (execs st X.env) (SP X pins D) X.xe s
theorem bU{α:Type}{t:Sem α}{Q Q':α->Shared->Prop}{M:Model}{A:KR}{E:KF}{s:KJ}(h:wpAny M A t Q E s)(hQ:∀a s,Q a s->Q' a s):wpAny M A t Q' E s:=wpAny_mono h hQ λ_ _ x=>x
section
variable {X:Cx}
theorem JG{a b:Expr}{ta tb:TE}(ha:PE X a ta)(hb:PE X b tb){pins:KH}{s:KJ}{σ:St}{H:Hp}{R:V->V->Hp->Prop}(I:Inv X pins σ H s)(h:ta σ H λx H1=>tb σ H1 λy H2=>R x y H2)
  {α:Type} {Q:α->Shared->Prop} {f:Value->Value->Sem α}
  (hf:∀v u s2 x y H2,Inv X pins σ H2 s2->bf x v->bf y u->R x y H2->wpAny (model X.prog X.w) X.A (f v u) Q X.xe s2) :
  wpAny (model X.prog X.w) X.A (eval a X.env) (λv s₁=>wpAny (model X.prog X.w) X.A (eval b X.env) (λu s₂=>wpAny (model X.prog X.w) X.A (f v u) Q X.xe s₂) X.xe s₁) X.xe s:=by
 refine bU (ha pins s σ H _ I h) λv s1 ⟨x,H1,I1,r1,q1⟩=>?_;refine bU (hb pins s1 σ H1 _ I1 q1) λu s2 ⟨y,H2,I2,r2,q2⟩=>?_;exact hf v u s2 x y H2 I2 r1 r2 q2
def Aq(i:Nat):TE:=λσ H Q=>∃v,σ[i]?=some (some v)/\Q v H
def tC(v:V):TE:=λ_ H Q=>Q v H
theorem D8{i:Nat}{x:Str}{pos:Pos}(hN:X.N[i]?=some x)(hv:Gg X.env.scope x)(hd:autoParam ((x==("__debug__":Str))=false) zz1._auto_1)(hcd:autoParam ((x==("__classdict__":Str))=false) zz1._auto_1):PE X (.Name x pos) (Aq i):=by
 intro pins s σ H Q I h;obtain⟨v,e,h⟩:=h;obtain⟨m,hn,hl⟩:=I.loc;obtain⟨u,r,l⟩:=hl i x v hN e hv;have fin:EP X pins σ Q u s:=⟨v,H,I,r,h⟩;rcases l with⟨hk,hm⟩ | ⟨hk,c,hc,hcell⟩
 ·exact wpAny_Name (wpAny_loadName_local I.ok.kind hk hn hm fin) hd
 ·rcases hk with hk | hk
  ·exact wpAny_Name (wpAny_loadName_cell I.ok.kind hk hc hcell fin) hd
  ·exact wpAny_Name (wpAny_loadName_free I.ok.kind hk hc hcell fin hcd) hd
theorem am{i j pos}:PE X (.Constant (.int i) j pos) (tC (.int i)):=λ_ _ _ H _ I h=>wpAny_Constant_int ⟨.int i,H,I.tok _,⟨_,rfl⟩,h⟩
theorem md{b j pos}:PE X (.Constant (.bool b) j pos) (tC (.bl b)):=λ_ _ _ H _ I h=>Constant_bool ⟨.bl b,H,I,rfl,h⟩
theorem wJ{j pos}:PE X (.Constant .none j pos) (tC .non):=λ_ _ _ H _ I h=>Constant_none ⟨.non,H,I,rfl,h⟩
theorem n0{x j pos}:PE X (.Constant (.str x) j pos) (tC (.str x)):=λ_ _ _ H _ I h=>Calls.Constant_str ⟨.str x,H,I.tok _,⟨_,rfl⟩,h⟩
def Gl(X:Cx)(x:Str):Prop:=X.env.kindOf x=some .globalImplicit
theorem iP{E:KF}{pins:KH}{s:KJ}{σ:St}{H:Hp}{x:Str}{u:Value}{pos:Pos}{Q:KF}(I:Inv X pins σ H s)(hg:Gl X x)(hm:X.mg x=some u)(h:Q u s)
  (hd:autoParam ((x==("__debug__":Str))=false) zz1._auto_1):wpAny (model X.prog X.w) X.A (eval (.Name x pos) X.env) Q E s:=
 Calls.Name_function_global I.ok.kind hg (Calls.loadGlobal_global (by rw[I.ok.glob];exact I.mod.glob.keeps I.bk) hm h) hd
theorem fg{E:KF}{pins:KH}{s:KJ}{σ:St}{H:Hp}{x:Str}{u:Value}{pos:Pos}{Q:KF}(I:Inv X pins σ H s)(hg:Gl X x)(hm:X.mg x=none)(hv:bootBuiltins x=some u)(h:Q u s)
  (hn:autoParam (x≠"__name__") zz1._auto_1) (hd:autoParam ((x==("__debug__":Str))=false) zz1._auto_1):wpAny (model X.prog X.w) X.A (eval (.Name x pos) X.env) Q E s:=by
 obtain⟨mb,h1,h2⟩:=I.mod.blt;exact Calls.Name_function_global I.ok.kind hg (Calls.loadGlobal_builtin (by rw[I.ok.glob];exact I.mod.glob.keeps I.bk) hm (by rw[I.ok.blt];exact h1.keeps I.bk) ((h2 x hn).trans hv) h) hd
theorem cY{x:Str}{v:V}{u:Value}{pos:Pos}(hg:Gl X x)(hm:X.mg x=some u)(r:bf v u)(hd:autoParam ((x==("__debug__":Str))=false) zz1._auto_1):PE X (.Name x pos) (tC v):=
 λ_ _ _ H _ I h=>iP I hg hm ⟨v,H,I,r,h⟩ hd
theorem xG{x:Str}{v:V}{u:Value}{pos:Pos}(hg:Gl X x)(hm:X.mg x=none)(hv:bootBuiltins x=some u)(r:bf v u)(hn:autoParam (x≠"__name__") zz1._auto_1)(hd:autoParam ((x==("__debug__":Str))=false) zz1._auto_1):PE X (.Name x pos) (tC v):=
 λ_ _ _ H _ I h=>fg I hg hm hv ⟨v,H,I,r,h⟩ hn hd
variable {a b:Expr}{ta tb:TE}{pos:Pos}
def PC(X:Cx)(op:CmpOp)(a b:Expr)(t:TE):Prop:=
 ∀(pins:KH) (s:KJ) (σ:St) (H:Hp) (Q:VK),Inv X pins σ H s->t σ H Q ->
  wpAny (model X.prog X.w) X.A (eval a X.env) (λv s₁=>wpAny (model X.prog X.w) X.A (eval b X.env) (λu s₂=>wpAny (model X.prog X.w) X.A (compareOp op v u) (EP X pins σ Q) X.xe s₂) X.xe s₁) X.xe s
theorem zO(b:Expr){op:CmpOp}(h:op≠.In)(h2:op≠.NotIn):behindInMarks op b=false:=by
 have e1:(op==CmpOp.In)=false:=by cases op<;>first | rfl | exact absurd rfl h
 have e2:(op==CmpOp.NotIn)=false:=by cases op<;>first | rfl | exact absurd rfl h2
 cases b<;>simp[behindInMarks,e1,e2]
def tB(t:TE):TT:=λσ H Q=>t σ H λx H1=>∃c,x=.bl c/\Q c H1
theorem nB{op:CmpOp}{t:TE}(h:PC X op a b t)(h1:behindInMarks op b=false:=by first | exact zO _ nofun nofun | rfl):PT X (.Compare a [op] [b] pos) (tB t):=by
 intro pins s σ H Q I hw;refine wpAny_isTrue_Compare1 (bU (h pins s σ H _ I hw) λv s1 h1=>bU h1 λu s2 h2=>bU h2 λc s3 ⟨x,H1,I1,r1,q1⟩=>?_) h1;obtain⟨d,rfl,q⟩:=q1;cases r1;exact wpAny_truthy_bool ⟨H1,I1,q⟩
variable {tA tB':TT}{aY:KW}
def D5(t u:TT):TT:=λσ H Q=>t σ H λc H1=>if c=true then u σ H1 Q else Q false H1
def GQ(t u:TT):TT:=λσ H Q=>t σ H λc H1=>if c=true then Q true H1 else u σ H1 Q
def Fd(t:TT):TT:=λσ H Q=>t σ H λc H1=>Q (!c) H1
theorem qR(ha:PT X a tA):PW X (.BoolOp .And [a] pos) tA:=by
 intro wh pins s σ H Q I h;refine isTrue_and (bU (ha pins s σ H Q I h) λc s1 e=>?_);cases c with
 |true=>exact isTrue_and_nil e
 |false=>exact e
theorem tM(ha:PT X a tA):PW X (.BoolOp .Or [a] pos) tA:=by
 intro wh pins s σ H Q I h;refine isTrue_or (bU (ha pins s σ H Q I h) λc s1 e=>?_);cases c with
 |false=>exact isTrue_or_nil e
 |true=>exact e
theorem wQ(ha:PT X a tA)(hb:PW X (.BoolOp .And (b::aY) pos) tB'):PW X (.BoolOp .And (a::b::aY) pos) (D5 tA tB'):=by
 intro wh pins s σ H Q I h;refine isTrue_and (bU (ha pins s σ H _ I h) λc s1 ⟨H1,I1,q1⟩=>?_);cases c with
 |true=>exact hb wh pins s1 σ H1 Q I1 q1
 |false=>exact⟨H1,I1,q1⟩
theorem xk(ha:PT X a tA)(hb:PW X (.BoolOp .Or (b::aY) pos) tB'):PW X (.BoolOp .Or (a::b::aY) pos) (GQ tA tB'):=by
 intro wh pins s σ H Q I h;refine isTrue_or (bU (ha pins s σ H _ I h) λc s1 ⟨H1,I1,q1⟩=>?_);cases c with
 |true=>exact⟨H1,I1,q1⟩
 |false=>exact hb wh pins s1 σ H1 Q I1 q1
theorem lh(ha:PT X a tA):PT X (.UnaryOp .Not a pos) (Fd tA):=by
 intro pins s σ H Q I h;exact isTrue_not (ha pins s σ H (λc H1=>Q (!c) H1) I h)
def zN(ta tb:TE):TE:=λσ H Q=>ta σ H λx H1=>∃c,x=.bl c/\if c=true then tb σ H1 Q else Q (.bl false) H1
def BM(ta:TE):TE:=λσ H Q=>ta σ H λx H1=>∃c,x=.bl c/\Q (.bl (!c)) H1
theorem wH{op}{t:TE}(h:PE X a t):PE X (.BoolOp op [a] pos) t:=λpins s σ H Q I hw=>BoolOp_one (h pins s σ H Q I hw)
theorem tU(ha:PE X a ta)(hb:PE X (.BoolOp .And (b::aY) pos) tb):PE X (.BoolOp .And (a::b::aY) pos) (zN ta tb):=by
 intro pins s σ H Q I h;refine BoolOp_and (bU (ha pins s σ H _ I h) λv s1 ⟨x,H1,I1,r1,q1⟩=>?_);obtain⟨c,rfl,q1⟩:=q1;cases r1;refine wpAny_truthy_bool ?_;cases c with
 |true=>exact hb pins s1 σ H1 Q I1 q1
 |false=>exact⟨.bl false,H1,I1,rfl,q1⟩
theorem E_(ha:PE X a ta):PE X (.UnaryOp .Not a pos) (BM ta):=by
 intro pins s σ H Q I h;refine UnaryOp_ (bU (ha pins s σ H _ I h) λv s1 ⟨x,H1,I1,r1,q1⟩=>?_);obtain⟨c,rfl,q1⟩:=q1;cases r1;exact not_of (wpAny_truthy_bool ⟨.bl (!c),H1,I1,rfl,q1⟩)
def GB(t:TT)(ta tb:TE):TE:=λσ H Q=>t σ H λc H1=>if c=true then ta σ H1 Q else tb σ H1 Q
theorem BE{c:Expr}(hc:PT X c tA)(ha:PE X a ta)(hb:PE X b tb):PE X (.IfExp c a b pos) (GB tA ta tb):=by
 intro pins s σ H Q I h;refine wpAny_IfExp (bU (hc pins s σ H _ I h) λd s1 ⟨H1,I1,q1⟩=>?_);cases d with
 |true=>exact ha pins s1 σ H1 Q I1 q1
 |false=>exact hb pins s1 σ H1 Q I1 q1
end
def aQ(K:KG)(H:Hp)(a:Addr)(xs:List V):Prop:=
 Rd H a (.lst xs) \/
  ∃(o:Obj) (its:Array Value) (n:Nat),K.lookup a=some o/\o.cls=.type "list"/\o.dict=none/\o.data=.seq its n/\its.size<=sizeLine/\aW xs its.toList
def jv(K:KG)(H:Hp)(a:Addr)(xs:List V):Prop:=
 Rd H a (.tup xs) \/
  ∃(o:Obj) (its:Array Value) (n:Nat),K.lookup a=some o/\o.cls=.type "tuple"/\o.data=.seq its n/\its.size<=sizeLine/\aW xs its.toList
def GO:Value->Option V
 | .none=>some .non
 | .bool b=>some (.bl b)
 | .int i _=>some (.int i)
 | .str x _=>some (.str x)
 | .bytes b _=>some (.byt b)
 | .float b _=>some (.flt b)
 | .ref a=>some (.ref a)
 | .type n=>some (.ty n)
 |_=>none
theorem bf.abs{x:V}{u:Value}(r:bf x u):GO u=some x:=by
 cases x with
 |non=>cases r;rfl
 |bl _=>cases r;rfl
 |int _=>obtain⟨t,rfl⟩:=r;rfl
 |str _=>obtain⟨t,rfl⟩:=r;rfl
 |byt _=>obtain⟨t,rfl⟩:=r;rfl
 |flt _=>obtain⟨t,rfl⟩:=r;rfl
 |ref _=>cases r;rfl
 |ty _=>cases r;rfl
theorem bf.inj{x y:V}{u:Value}(r:bf x u)(q:bf y u):x=y:=Option.some.inj (r.abs.symm.trans q.abs)
theorem aW.inj:∀{xs ys:List V} {us:KL},aW xs us->aW ys us->xs=ys
 |_,_,_,.nil,.nil=>rfl
 |_,_,_,.cons r t,.cons r' t'=>by rw[r.inj r',aW.inj t t']
section
variable {X:Cx}{pins:KH}{σ:St}{H:Hp}{s:KJ}{a:Addr}{xs ys:List V}
theorem aQ.of{K:KG}(h:H a=some (.lst xs)):aQ K H a xs:=.inl (.inl h)
theorem jv.of{K:KG}(h:H a=some (.tup xs)):jv K H a xs:=.inl (.inl h)
theorem Inv.list(I:Inv X pins σ H s)(h:aQ X.K H a xs):∃its:List Value,aW xs its/\PlainL s.heap a its.toArray/\xs.length<=sizeLine:=by
 rcases h with h | ⟨o,its,n,hk,hc,hd,hs,hz,r⟩
 ·obtain⟨z,its,n,r,e⟩:=h.ok I.hok
  exact⟨its,r,⟨_,n,e,rfl,rfl,rfl⟩,z⟩
 ·refine⟨its.toList,r,⟨o,n,I.kIn a o hk,hc,hd,by simpa using hs⟩,?_⟩
  have e:=r.length;simp only[Array.length_toList]at e;omega
theorem Inv.tuple(I:Inv X pins σ H s)(h:jv X.K H a xs):∃its:List Value,aW xs its/\IsTup s.heap a its.toArray/\xs.length<=sizeLine:=by
 rcases h with h | ⟨o,its,n,hk,hc,hs,hz,r⟩
 ·obtain⟨z,its,r,p⟩:=h.ok I.hok
  exact⟨its,r,p,z⟩
 ·refine⟨its.toList,r,⟨o,I.kIn a o hk,hc,n,by simpa using hs⟩,?_⟩
  have e:=r.length;simp only[Array.length_toList]at e;omega
theorem Inv.list_inj(I:Inv X pins σ H s)(h:aQ X.K H a xs)(h':aQ X.K H a ys):xs=ys:=by
 obtain⟨its,r,⟨o,n,e,_,_,d⟩,_⟩:=I.list h;obtain⟨its',r',⟨o',n',e',_,_,d'⟩,_⟩:=I.list h';rw[e]at e';cases e'
 rw[d]at d'
 injection d' with d1 _
 have:its=its':=by simpa using congrArg Array.toList d1
 subst this;exact r.inj r'
end
abbrev Cx.wish(X:Cx)(E:KF):Cx:={X with xe:=E}
abbrev Cx.nox(X:Cx):Cx:=X.wish λ_ _=>False
theorem Cx.Ok.wish{X:Cx}(ok:X.Ok)(E:KF):(X.wish E).Ok:=
 ⟨ok.mod,ok.kind,ok.glob,ok.blt,ok.above,ok.inj,ok.has,ok.cab,ok.hd,ok.frames,ok.stk,ok.exf,ok.bs,ok.bsz,ok.noex,ok.exfs,ok.funs,ok.frf⟩
theorem Cx.Ok.unwish{X:Cx}{E:KF}(ok:(X.wish E).Ok):X.Ok:=
 ⟨ok.mod,ok.kind,ok.glob,ok.blt,ok.above,ok.inj,ok.has,ok.cab,ok.hd,ok.frames,ok.stk,ok.exf,ok.bs,ok.bsz,ok.noex,ok.exfs,ok.funs,ok.frf⟩
section
variable {X:Cx}{pins:KH}{σ:St}{H:Hp}{s:KJ}{E:KF}
theorem Inv.wish(I:Inv X pins σ H s)(E:KF):Inv (X.wish E) pins σ H s:=⟨I.ok.wish E,I.os,I.bare,I.base,I.loc,I.cell,I.free,I.freeC,I.pin,I.hok,I.len⟩
theorem Inv.unwish(I:Inv (X.wish E) pins σ H s):Inv X pins σ H s:=⟨I.ok.unwish,I.os,I.bare,I.base,I.loc,I.cell,I.free,I.freeC,I.pin,I.hok,I.len⟩
theorem SP.unwish{D:il}{f:Flow}{s':KJ}(h:SP (X.wish E) pins D f s'):SP X pins D f s':=by
 cases f with
 |next=>obtain⟨σ',H',I,q⟩:=h;exact⟨σ',H',I.unwish,q⟩
 |brk=>obtain⟨σ',H',I,q⟩:=h;exact⟨σ',H',I.unwish,q⟩
 |cont=>obtain⟨σ',H',I,q⟩:=h;exact⟨σ',H',I.unwish,q⟩
 |ret u=>obtain⟨v,σ',H',I,r,q⟩:=h;exact⟨v,σ',H',I.unwish,r,q⟩
theorem ud.nox{st:List Stmt}{t:TS}(h:ud X.nox st t):ud X st t:=λpins s σ H D I hw=>
 wpAny_mono (h pins s σ H D (I.wish _) hw) (λ_ _ q=>q.unwish) λ_ _ z=>False.elim z
end
section
variable {X:Cx}{st:Stmt}{aY:List Stmt}{t u:TS}{e:Expr}{te:TE}{pos:Pos}
def Bj:TS:=λD σ H=>D.nx σ H
def yL(t u:TS):TS:=λD σ H=>t {D with nx:=u D} σ H
theorem bu:ud X [] Bj:=λ_ _ σ H _ I h=>wpAny_execs_nil ⟨σ,H,I,h⟩
theorem af(h1:PS X st t)(h2:ud X aY u):ud X (st::aY) (yL t u):=by
 intro pins s σ H D I h;refine wpAny_execs_cons (bU (h1 pins s σ H {D with nx:=u D} I h) λf s1 q=>?_);cases f with
 |next=>
  obtain⟨σ',H',I',q⟩:=q;exact h2 pins s1 σ' H' D I' q
 |ret v=>exact q
 |brk=>exact q
 |cont=>exact q
theorem ag(h1:PS X st t):ud X [st] t:=by
 intro pins s σ H D I h;refine wpAny_execs_cons (bU (h1 pins s σ H D I h) λf s1 q=>?_);cases f with
 |next=>exact wpAny_execs_nil q
 |ret v=>exact q
 |brk=>exact q
 |cont=>exact q
theorem Inv.quiet{pins:KH}{σ:St}{H:Hp}{s:KJ}(I:Inv X pins σ H s):interactive X.env=false:=by simp[interactive,I.ok.kind]
def xo(te:TE):TS:=λD σ H=>te σ H λ_ H1=>D.nx σ H1
theorem bw(he:PE X e te)(hs:autoParam (swapsWith e none pos.line X.env=pure false) zz0._auto_1):PS X (.Expr e pos) (xo te):=by
 intro pins s σ H D I h;exact wpAny_Expr_any (bU (he pins s σ H _ I h) λv s1 ⟨x,H1,I1,r1,q1⟩=>⟨σ,H1,I1,q1⟩) I.quiet hs
def Fa(te:TE):TS:=λD σ H=>te σ H D.rt
theorem aJ(he:PE X e te):PS X (.Return (some e) pos) (Fa te):=by
 intro pins s σ H D I h;exact wpAny_Return_some (bU (he pins s σ H _ I h) λv s1 ⟨x,H1,I1,r1,q1⟩=>⟨x,σ,H1,I1,r1,q1⟩)
def Cm(c:TT)(t u:TS):TS:=λD σ H=>c σ H λb H1=>if b=true then t D σ H1 else u D σ H1
theorem ce{c:Expr}{a b:List Stmt}{tc:TT}(hc:PT X c tc)(ha:ud X a t)(hb:ud X b u):PS X (.If c a b pos) (Cm tc t u):=by
 intro pins s σ H D I h;refine wpAny_If (bU (hc pins s σ H _ I h) λd s1 ⟨H1,I1,q1⟩=>?_);cases d with
 |true=>exact ha pins s1 σ H1 D I1 q1
 |false=>exact hb pins s1 σ H1 D I1 q1
end
abbrev TG:=V->St->Hp->(St->Hp->Prop)->Prop
abbrev DR:=List V->St->Hp->(St->Hp->Prop)->Prop
def PG(X:Cx)(target:Expr)(t:TG):Prop:=
 ∀(pins:KH) (s:KJ) (σ:St) (H:Hp) (v:V) (u:Value) (Q:St->Hp->Prop),Inv X pins σ H s->bf v u->t v σ H Q ->
  wpAny (model X.prog X.w) X.A (assign target X.env u) (λ_ s'=>∃σ' H',Inv X pins σ' H' s'/\Q σ' H') X.xe s
def Fm(X:Cx)(ts:KW)(t:DR):Prop:=
 ∀(pins:KH) (s:KJ) (σ:St) (H:Hp) (vs:List V) (us:KL) (Q:St->Hp->Prop),Inv X pins σ H s->aW vs us->t vs σ H Q ->
  wpAny (model X.prog X.w) X.A (assignInOrder ((assignEach ts X.env).map (·.2)) us) (λ_ s'=>∃σ' H',Inv X pins σ' H' s'/\Q σ' H') X.xe s
section
variable {X:Cx}{pos:Pos}
def j8(i:Nat):TG:=λv σ H Q=>Q (σ.set i (some v)) H
theorem aA{i:Nat}{x:Str}(hN:X.N.Nodup)(hi:X.N[i]?=some x)(hx:Loc X.env.scope x)(hf:autoParam (X.fn x=true\/X.env.scope.names.lookup x=some .local) zz3._auto_1):PG X (.Name x pos) (j8 i):=by
 intro pins s σ H v u Q I r h;exact wpAny_assign_Name (uP I hN hi hx r (λs' I'=>⟨_,H,I',h⟩) hf)
def C_:DR:=λvs σ H Q=>vs=[]/\Q σ H
def xf(t:TG)(u:DR):DR:=λvs σ H Q=>∃v r,vs=v::r/\t v σ H λσ' H'=>u r σ' H' Q
theorem dU:Fm X [] C_:=by
 intro pins s σ H vs us Q I r h;obtain⟨e,h⟩:=h;subst e;cases r;exact assignInOrder_nil ⟨σ,H,I,h⟩
theorem aS{e:Expr}{es:KW}{t:TG}{u:DR}(h1:PG X e t)(h2:Fm X es u)
  (hs:autoParam ((assignEach (e::es) X.env).map (·.2)=assign e X.env::(assignEach es X.env).map (·.2)) zz0._auto_1):Fm X (e::es) (xf t u):=by
 intro pins s σ H vs us Q I r h;obtain⟨v,vr,e1,h⟩:=h;subst e1;cases r with
 |cons r rr=>
  rw[hs];refine assignInOrder_cons (bU (h1 pins s σ H _ _ _ I r h) λ_ s1 ⟨σ1,H1,I1,q1⟩=>?_);exact h2 pins s1 σ1 H1 _ _ Q I1 rr q1
def BV(K:KG)(n:Nat)(t:DR):TG:=λv σ H Q=>∃a xs,v=.ref a/\jv K H a xs/\xs.length=n/\t xs σ H Q
theorem jE{es:KW}{k:Nat}{t:DR}{n:Nat}(hc:X.calm=true)(h:Fm X es t)
  (hn:autoParam ((assignEach es X.env).length=n) zz0._auto_1) (hst:autoParam ((assignEach es X.env).findIdx? (·.1)=none) zz0._auto_1):PG X (.Tuple es k pos) (BV X.K n t):=by
 intro pins s σ H v u Q I r hw;obtain⟨a,xs,e1,hq,hl,hw⟩:=hw;subst e1;cases r;obtain⟨its,rv,ht,hz⟩:=I.tuple hq;refine assign_Tuple_tuple (I.ok.hd hc) ht (by simp[hn,<- hl,rv.length]) hst λh' hx=>?_;have I1:Inv X pins σ H {s with heap:=h' }:=I.kept (t':=s.toks) λb o e=>hx b o (J4 (J' e)) e;exact h pins _ σ H xs _ Q I1 (by simpa using rv) hw
def zL(te:TE)(g:TG):TS:=λD σ H=>te σ H λx H1=>g x σ H1 D.nx
theorem aH{i:Nat}{x:Str}{e:Expr}{te:TE}{pos':Pos}(hN:X.N.Nodup)(hi:X.N[i]?=some x)(hx:Loc X.env.scope x)(he:PE X e te)(hs:autoParam (swapsWith e (some (.Name x pos')) pos.line X.env=pure false) zz0._auto_1)(hf:autoParam (X.fn x=true\/X.env.scope.names.lookup x=some .local) zz3._auto_1) :
  PS X (.Assign [.Name x pos'] e pos) (zL te (j8 i)):=by
 intro pins s σ H D I h;refine wpAny_Assign_Name (bU (he pins s σ H _ I h) λv s1 ⟨y,H1,I1,r1,q1⟩=>?_) hs;exact uP I1 hN hi hx r1 (λs2 I2=>⟨_,H1,I2,q1⟩) hf
def vQ(c:TT)(tb:TS):TS:=λD σ H=>∃W:Nat->St->Hp->Prop,(∃m,W m σ H)/\∀m σ H,W m σ H ->
 c σ H λb H1=>if b=true then ∃N:St->Hp->Prop,(∀σ' H',N σ' H'->∃m',m'<m/\W m' σ' H')/\tb {D with nx:=N,ct:=N,bk:=D.nx} σ H1 else D.nx σ H1
theorem AQ{c:Expr}{body:List Stmt}{tc:TT}{tb:TS}(hp:PassesOwn (model X.prog X.w) X.A X.env X.xe)(hc:PT X c tc)(hb:ud X body tb):PS X (.While c body [] pos) (vQ tc tb):=by
 intro pins s σ H D I h;obtain⟨W,⟨m0,w0⟩,turn⟩:=h;refine wpAny_While (codeAny_whileLoop (λn s'=>∃σ' H',Inv X pins σ' H' s'/\W n σ' H') ?_ m0 ⟨σ,H,I,w0⟩);rintro n s1 ⟨σ1,H1,I1,w1⟩;refine wpAny_passesOwn hp (bU (hc pins s1 σ1 H1 _ I1 (turn n σ1 H1 w1)) λb s2 ⟨H2,I2,q2⟩=>?_);cases b with
 |true=>
  obtain⟨N,hN,q2⟩:=q2;rw[if_pos rfl];refine wpAny_passesOwn hp (bU (hb pins s2 σ1 H2 _ I2 q2) λf s3 q3=>?_);cases f with
  |next=>
   obtain⟨σ3,H3,I3,n3⟩:=q3;obtain⟨m',hm,w3⟩:=hN σ3 H3 n3;exact⟨m',hm,σ3,H3,I3,w3⟩
  |cont=>
   obtain⟨σ3,H3,I3,n3⟩:=q3;obtain⟨m',hm,w3⟩:=hN σ3 H3 n3;exact⟨m',hm,σ3,H3,I3,w3⟩
  |brk=>exact q3
  |ret v=>exact q3
 |false=>
  rw[if_neg J_];exact wpAny_execs_nil ⟨σ1,H2,I2,q2⟩
end
structure It where
 go:Nat->Hp->Prop
 yld:Nat->Hp->V->Hp->Prop
 stop:Nat->Hp->Prop
def mx(X:Cx)(pins:KH)(H:Hp)(b:Addr):Prop:=
 H b=none/\b≠X.env.locals/\b∉X.fs/\(b∈X.ex\/X.s₀.heap.objs.size<=b)/\(∀x c,X.env.cells.lookup x=some c->c≠b)/\∀p∈X.pn++pins,p.1≠b
theorem Inv.fpOk{X:Cx}{pins:KH}{σ:St}{H H':Hp}{s:KJ}{b:Addr}(I:Inv X pins σ H s)(hb:s.heap.objs.size<=b)(hn:H' b=none):mx X pins H' b:=by
 refine⟨hn,Nat.ne_of_gt (J3 I.lt hb),I.nofs hb,.inr (Kd I.sz hb),λx c e z=>?_,λp hp z=>?_⟩
 ·obtain⟨v,q⟩:=I.cell x c e
  exact absurd (J3 q.lt (by rw[z];exact hb)) (Ke _)
 ·exact absurd (J3 (J' (I.pin p hp).1) (by rw[z];exact hb)) (Ke _)
structure v3(P:KP)(w:KS)(K:KG)(tg:Expr)(J:It)(fp:KM)(it:Addr)(tn:Nat->Heap->Prop):Prop where
 mem:it∈fp
 obj:∀i h,tn i h->∀b∈fp,∃o,h.get? b=some o/\∀v,o.data≠.cell v
 keep:∀i h h',tn i h->(∀b∈fp,∀o,h.get? b=some o->h'.get? b=some o)->tn i h'
 item:∀(X:Cx),X.prog=P->X.w=w->X.K=K->X.calm=true->∀(i:Nat) (pins:KH) (s:KJ) (σ:St) (H:Hp) (E:KF),Inv X pins σ H s->(∀b∈fp,mx X pins H b)->tn i s.heap->J.go i H ->
  wpAny (model P w) X.A (pyNext (.ref it)) (λr s1=>∃u,r=some u /\
   wpAny (model P w) X.A (letOwnedTupleGo tg (.ref it) u) (λ_ s2=>∃x H',Inv X pins σ H' s2/\bf x u/\J.yld i H x H'/\tn (i+1) s2.heap/\∀b∈fp,H' b=none) E s1) E s
 done:∀(X:Cx),X.prog=P->X.w=w->X.K=K->X.calm=true->∀(i:Nat) (pins:KH) (s:KJ) (σ:St) (H:Hp) (E:KF),Inv X pins σ H s->(∀b∈fp,mx X pins H b)->tn i s.heap->J.stop i H ->
  wpAny (model P w) X.A (pyNext (.ref it)) (λr s1=>r=none/\Inv X pins σ H s1) E s
 self:∀(A:KR) (i:Nat) (s:KJ) (Q:KF) (E:KF),tn i s.heap->Q (.ref it) s->wpAny (model P w) A (pyIter (.ref it)) Q E s
abbrev TI:=St->Hp->(It->Hp->Prop)->Prop
def Hd(X:Cx)(pins:KH)(σ:St)(tg:Expr)(R:It->Hp->Prop)(itv:Value)(s2:KJ):Prop:=
 ∃(it:Addr) (fp:KM) (tn:Nat->Heap->Prop) (J:It) (H':Hp),itv=.ref it/\Inv X pins σ H' s2/\v3 X.prog X.w X.K tg J fp it tn/\tn 0 s2.heap/\(∀b∈fp,mx X pins H' b)/\R J H'
def PI(X:Cx)(tg iter:Expr)(wi:TI):Prop:=
 ∀(pins:KH) (s:KJ) (σ:St) (H:Hp) (R:It->Hp->Prop),Inv X pins σ H s->wi σ H R ->
  wpAny (model X.prog X.w) X.A (eval iter X.env) (λv s1=>wpAny (model X.prog X.w) X.A (pyIter v) (Hd X pins σ tg R) X.xe s1) X.xe s
theorem xb{M:Model}{A:KR}{E:KF}{s:KJ}{tg:Expr}{it:Addr}{u:Value}{o:Obj}{n:String}{vs:Array Value}{Q:Unit->Shared->Prop}(ho:s.heap.get? it=some o)(hc:o.cls=.type n)(hd:o.data=.fields vs)
  (hn:["enumerate","zip","dict_itemiterator","dict_reverseitemiterator","odict_iterator","itertools.zip_longest","itertools.pairwise"].contains n=false) (hQ:Q () s):wpAny M A (letOwnedTupleGo tg (.ref it) u) Q E s:=by
 unfold letOwnedTupleGo;cases tg<;>first
  |exact wpAny_pure hQ
  | (cases u<;>first
    |exact wpAny_pure hQ
    | (refine wpAny_bind (wpAny_load ho ?_)
       rw[hc,hd];show wpAny M A (if(["enumerate","zip","dict_itemiterator","dict_reverseitemiterator","odict_iterator","itertools.zip_longest","itertools.pairwise"].contains n&&vs[0]?==some (rawInt _))=true then _ else _) Q E s;rw[if_neg (by intro h;rw[hn,Bool.false_and]at h;cases h)];exact wpAny_pure hQ))
def BB(K:KG)(a:Addr):It:=
 ⟨λi H=>∃xs x,aQ K H a xs/\xs[i]?=some x,λi H x H'=>H'=H/\∀xs,aQ K H a xs->xs[i]?=some x,λi H=>∃xs,aQ K H a xs/\xs.length<=i⟩
def zI(lo:Int)(n:Nat):It:=⟨λi _=>i<n,λi H x H'=>H'=H/\x=.int (lo+i),λi _=>n<=i⟩
theorem yb{P:KP}{w:KS}{K:KG}{tg:Expr}(a it:Addr):v3 P w K tg (BB K a) [it] it (λi h=>h.IsListIter it a i) where
 mem:=by simp
 obj:=λi h st b hb=>by
  have e:b=it:=by simpa using hb
  subst e;obtain⟨o,e,c,d⟩:=st;exact⟨o,e,λv z=>by rw[d]at z;cases z⟩
 keep:=λi h h' st k=>st.at λo e=>k it (by simp) o e
 item:=by
  intro X hP hw hK hc i pins s σ H E I hf st hg;subst hP hw hK;obtain⟨xs,x,hq,hx⟩:=hg;obtain⟨its,rv,p,hz⟩:=I.list hq;obtain⟨u,hu,ru⟩:=rv.get hx;obtain⟨f0,f1,f2,f3,f4,f5⟩:=hf it (by simp);refine wpAny_pyNext_list_item st p.isList (x:=u) (by simpa using hu) λh' st' sb=>?_;have I1:Inv X pins σ H {s with heap:=h' }:=I.turned (t':=s.toks) (λb o hb e=>(sb.2 b hb).trans e) f0 f1 f3 f4 f5;obtain⟨o,e,c,d⟩:=id st';exact⟨u,rfl,xb (s:={s with heap:=h' }) e c d nofun ⟨x,H,I1,ru,⟨rfl,λys hy=>by rw[I.list_inj hy hq];exact hx⟩,st',λb hb=>(hf b hb).1⟩⟩
 done:=by
  intro X hP hw hK hc i pins s σ H E I hf st hg;subst hP hw hK;obtain⟨xs,hq,hx⟩:=hg;obtain⟨its,rv,p,hz⟩:=I.list hq;obtain⟨f0,f1,f2,f3,f4,f5⟩:=hf it (by simp);have hl:=rv.length;exact wpAny_pyNext_list_end (I.ok.hd hc) st p.isList (by simp;omega) λh' eb=>⟨rfl,I.turned (t':=s.toks) (λb o hb e=>eb b o hb e) f0 f1 f3 f4 f5⟩
 self:=λ_ _ _ _ _ st h=>wpAny_pyIter_listiter st h
theorem v8{P:KP}{w:KS}{K:KG}{tg:Expr}(it:Addr)(lo:Int)(n:Nat):v3 P w K tg (zI lo n) [it] it (λi h=>IsRangeIter h it (lo+(i:Nat)*1) ((n:Int)-(i:Nat)) 1) where
 mem:=by simp
 obj:=λi h st b hb=>by
  have e:b=it:=by simpa using hb
  subst e;exact⟨_,st,λv z=>by
   have z':Data.fields _=Data.cell v:=z;cases z'⟩
 keep:=λi h h' st k=>k it (by simp) _ st
 item:=by
  intro X hP hw hK hc i pins s σ H E I hf st hg;subst hP hw hK;obtain⟨f0,f1,f2,f3,f4,f5⟩:=hf it (by simp);have W:=Walks.range (prog:=X.prog) (w:=X.w) (I.ok.hd hc) it lo 1 n;refine W.item i s _ _ hg st λv h' tk hv st' kk=>?_;obtain⟨t,rfl⟩:=hv;have I1:Inv X pins σ H {s with heap:=h',toks:=tk}:=I.turned (λb o hb e=>kk b o (by simpa using hb) e) f0 f1 f3 f4 f5;refine⟨_,rfl,xb (s:={s with heap:=h',toks:=tk}) (n:="range_iterator") st' rfl rfl nofun ⟨.int (lo+i),H,I1,⟨t,?_⟩,⟨rfl,rfl⟩,st',λb hb=>(hf b hb).1⟩⟩;rw[Int.mul_one]
 done:=by
  intro X hP hw hK hc i pins s σ H E I hf st hg;subst hP hw hK;obtain⟨f0,f1,f2,f3,f4,f5⟩:=hf it (by simp);exact wpAny_pyNext_range_end (I.ok.hd hc) st (by have:n<=i:=hg;omega) λh' eb=>⟨rfl,I.turned (t':=s.toks) (λb o hb e=>eb b o hb e) f0 f1 f3 f4 f5⟩
 self:=λ_ _ _ _ _ st h=>wpAny_pyIter_rangeiter st h
section
variable {X:Cx}{tg:Expr}
def Am(K:KG)(tl:TE):TI:=λσ H R=>tl σ H λx H1=>∃a,x=.ref a/\(∃xs,aQ K H1 a xs)/\R (BB K a) H1
theorem bD{l:Expr}{tl:TE}(hl:PE X l tl):PI X tg l (Am X.K tl):=by
 intro pins s σ H R I h;refine bU (hl pins s σ H _ I h) λv s1 ⟨x,H1,I1,r1,q1⟩=>?_;obtain⟨a,e,⟨xs,hq⟩,q⟩:=q1;subst e;cases r1;obtain⟨its,rv,p,hz⟩:=I1.list hq;refine wpAny_pyIter_list p.isList ?_;refine⟨s1.heap.objs.size,[s1.heap.objs.size],_,_,H1,rfl,I1.kept (t':=s1.toks) λb o e=>JL _ e,yb a _,⟨_,JR _ rfl,rfl,rfl⟩,λb hb=>?_,q⟩;have e:b=s1.heap.objs.size:=by simpa using hb
 subst e;exact I1.fpOk (J8 _) (I1.hok.fresh (J8 _))
theorem vm{pins:KH}{σ:St}{H:Hp}{s:KJ}{R:It->Hp->Prop}{E:KF}{lo hi:Int}{t u v:Tok}{tk:Nat}(I:Inv X pins σ H s)(h1:-(2 ^ 62)<=lo)(h2:lo<2 ^ 62)(h3:-(2 ^ 62)<=hi)(h4:hi<2 ^ 62)
  (q:R (zI lo (hi-lo).toNat) H):wpAny (model X.prog X.w) X.A (pyIter (.ref s.heap.objs.size)) (Hd X pins σ tg R) E {s with heap:=s.heap.push {cls:=.type "range",data:=.fields #[.int lo t,.int hi u,.int 1 v]},toks:=tk}:=by
 refine wpAny_pyIter_range (IsRange.new ..) (small_one h1 h2 h3 h4) ?_;have I1:Inv X pins σ H {s with heap:=s.heap.push {cls:=.type "range",data:=.fields #[.int lo t,.int hi u,.int 1 v]},toks:=tk}:=I.kept λb o e=>JL _ e;refine⟨(s.heap.push {cls:=.type "range",data:=.fields #[.int lo t,.int hi u,.int 1 v]}).objs.size,[(s.heap.push {cls:=.type "range",data:=.fields #[.int lo t,.int hi u,.int 1 v]}).objs.size],_,_,H,rfl,
  I1.kept (t':=tk) λb o e=>JL _ e,v8 _ lo (hi-lo).toNat,?_,λb hb=>?_,q⟩
 ·have e1:lo+((0:Nat):Int)*1=lo:=by simp
  have e2:(((hi-lo).toNat:Nat):Int)-((0:Nat):Int)=Builtin.Range.rangeSize lo hi 1:=by rw[rangeSize_one];split<;>omega
  show IsRangeIter _ _ (lo+((0:Nat):Int)*1) ((((hi-lo).toNat:Nat):Int)-((0:Nat):Int)) 1;rw[e1,e2];exact JR _ rfl
 ·have e:b=(s.heap.push {cls:=.type "range",data:=.fields #[.int lo t,.int hi u,.int 1 v]}).objs.size:=by simpa using hb
  subst e;exact I1.fpOk (J8 _) (I1.hok.fresh (J8 _))
def BY(ta:TA):TI:=λσ H R=>ta σ H λvs H1=>∃j:Int,vs=[.int j]/\-(2 ^ 62)<=j/\j<2 ^ 62/\R (zI 0 j.toNat) H1
def Br(ta:TA):TI:=λσ H R=>ta σ H λvs H1=>∃i j:Int,vs=[.int i,.int j]/\(-(2 ^ 62)<=i/\i<2 ^ 62/\-(2 ^ 62)<=j/\j<2 ^ 62)/\R (zI i (j-i).toNat) H1
theorem cB{a:Expr}{ta:TA}{p pos:Pos}(hg:Gl X "range")(hm:X.mg "range"=none)(ha:PA X [a] ta)(hs:autoParam (starEach [a] X.env=[(false,eval a X.env)]) zz0._auto_1):PI X tg (.Call (.Name "range" p) [a] [] pos) (BY ta):=by
 intro pins s σ H R I h;refine Call_ (fg I hg hm boot_range (PyProof.Rows.callWith_type1 (bU (ha pos pins s σ H _ I h) λus s1 ⟨vs,H1,I1,r1,q1⟩=>?_) hs rfl));obtain⟨j,e,q1,q2,q⟩:=q1;subst e;cases r1 with
 |cons r rr=>
  cases rr;obtain⟨t,rfl⟩:=r;exact call_range_1 (vm I1 ⋯ ⋯ q1 q2 (by simpa using q))
theorem iW{a b:Expr}{ta:TA}{p pos:Pos}(hg:Gl X "range")(hm:X.mg "range"=none)(ha:PA X [a,b] ta)(hs:autoParam (starEach [a,b] X.env=[(false,eval a X.env),(false,eval b X.env)]) zz0._auto_1)(hs2:autoParam (starEach [b] X.env=[(false,eval b X.env)]) zz0._auto_1) :
  PI X tg (.Call (.Name "range" p) [a,b] [] pos) (Br ta):=by
 intro pins s σ H R I h;refine Call_ (fg I hg hm boot_range (PyProof.Rows.callWith_type1 (bU (ha pos pins s σ H _ I h) λus s1 ⟨vs,H1,I1,r1,q1⟩=>?_) (by rw[hs,hs2]) (by rw[hs2];rfl)));obtain⟨i,j,e,⟨q1,q2,q3,q4⟩,q⟩:=q1;subst e;cases r1 with
 |cons r rr=>
  cases rr with
  |cons r' rr=>
   cases rr;obtain⟨t,rfl⟩:=r;obtain⟨t',rfl⟩:=r';exact call_range_2 (vm I1 q1 q2 q3 q4 q)
def Gs(wi:TI)(g:TG)(tb:TS):TS:=λD σ H=>wi σ H λJ H1=>∃W:Nat->Nat->St->Hp->Prop,(∃m,W 0 m σ H1)/\∀i m σ H,W i m σ H ->
 (J.stop i H/\D.nx σ H)\/(J.go i H/\∃N:St->Hp->Prop,(∀σ' H',N σ' H'->∃m',m'<m/\W (i+1) m' σ' H')/\∀x H',J.yld i H x H'->g x σ H' λσ2 H2=>tb {D with nx:=N,ct:=N,bk:=D.nx} σ2 H2)
def oG(fp:KM)(h:Heap):List (Addr×Obj):=fp.filterMap λb=>(h.get? b).map λo=>(b,o)
theorem gM{fp:KM}{h:Heap}{b:Addr}{o:Obj}(hb:b∈fp)(e:h.get? b=some o):(b,o)∈oG fp h:=List.mem_filterMap.mpr ⟨b,hb,by rw[e];rfl⟩
theorem ym{fp:KM}{h:Heap}{p:Addr×Obj}(hp:p∈oG fp h):p.1∈fp/\h.get? p.1=some p.2:=by
 obtain⟨b,hb,e⟩:=List.mem_filterMap.mp hp;cases q:h.get? b with
 |none=>rw[q]at e;cases e
 |some o=>
  rw[q]at e;have e':(b,o)=p:=Option.some.inj e;subst e';exact⟨hb,q⟩
theorem Inv.pinned{pins:KH}{σ:St}{H:Hp}{s:KJ}{fp:KM}(I:Inv X pins σ H s)(hf:∀b∈fp,mx X pins H b)(ho:∀b∈fp,∃o,s.heap.get? b=some o/\∀v,o.data≠.cell v):Inv X (pins++oG fp s.heap) σ H s:=
 I.pins_of λp hp=>(JY.mp hp).elim (λz=>I.pin p (List.mem_append_right _ z)) λz=>by
  obtain⟨hb,e⟩:=ym z;obtain⟨f0,f1,f2,_⟩:=hf p.1 hb;obtain⟨o,e',d⟩:=ho p.1 hb;rw[e]at e';cases e'
  exact⟨e,f0,f1,f2,d⟩
theorem Inv.unpinned{pins pl:KH}{σ:St}{H:Hp}{s:KJ}(I:Inv X (pins++pl) σ H s):Inv X pins σ H s:=I.pins_of λp hp=>I.pin p (List.mem_append_right _ (List.mem_append_left _ hp))
theorem Fc{iter:Expr}{body:List Stmt}{wi:TI}{g:TG}{tb:TS}{pos:Pos}(hp:PassesOwn (model X.prog X.w) X.A X.env X.xe)(hc:X.calm=true)(hi:PI X tg iter wi)(hg:PG X tg g)(hb:ud X body tb)
  (hs:autoParam (∀x,foldedSetIterable iter X.env x=pure x) zz4._auto_1):PS X (.For tg iter body [] pos) (Gs wi g tb):=by
 intro pins s σ H D I h;refine wpAny_For (bU (hi pins s σ H _ I h) λv s1 h1=>bU h1 λitv s2 h2=>?_) hs;obtain⟨it,fp,tn,J,H2,e,I2,T,st2,f2,W,⟨m0,w0⟩,turn⟩:=h2;subst e
 -- what stays true of the iterator's objects through the loop
 have stat:∀{H':Hp},(∀b∈fp,H' b=none)->∀b∈fp,mx X pins H' b:=λhn b hb=>⟨hn b hb,(f2 b hb).2⟩;refine codeAny_forLoop_any (λn s'=>∃i σ' H',Inv X pins σ' H' s'/\tn i s'.heap/\(∀b∈fp,H' b=none)/\W i n σ' H') ?_ m0 ⟨0,σ,H2,I2,st2,λb hb=>(f2 b hb).1,w0⟩;rintro n s3 ⟨i,σ3,H3,I3,st3,fr3,w3⟩;rcases turn i n σ3 H3 w3 with⟨stop,qn⟩ | ⟨go,N,hN,step⟩
 ·refine wpAny_passesOwn hp (bU (T.done X rfl rfl rfl hc i pins s3 σ3 H3 X.xe I3 (stat fr3) st3 stop) λr s4 ⟨hr,I4⟩=>?_)
  subst hr;exact wpAny_execs_nil ⟨σ3,H3,I4,qn⟩
 ·refine wpAny_passesOwn hp (bU (T.item X rfl rfl rfl hc i pins s3 σ3 H3 X.xe I3 (stat fr3) st3 go) λr s4 ⟨u,hr,h4⟩=>?_)
  subst hr;refine wpAny_passesOwn hp (bU h4 λ_ s5 ⟨x,H5,I5,r5,y5,st5,fr5⟩=>?_);have I5':=I5.pinned (stat fr5) (T.obj _ _ st5);refine wpAny_passesOwn hp (bU (hg _ s5 σ3 H5 x u _ I5' r5 (step x H5 y5)) λ_ s6 ⟨σ6,H6,I6,q6⟩=>?_);refine wpAny_passesOwn hp (bU (hb _ s6 σ6 H6 _ I6 q6) λf s7 q7=>?_);have again:∀{σ7:St} {H7:Hp},Inv X (pins++oG fp s5.heap) σ7 H7 s7->N σ7 H7->∃m,m<n/\∃i σ' H',Inv X pins σ' H' s7/\tn i s7.heap/\(∀b∈fp,H' b=none)/\W i m σ' H':=fun{σ7 H7} I7 n7=>by
   obtain⟨m',hm,w7⟩:=hN σ7 H7 n7;refine⟨m',hm,i+1,σ7,H7,I7.unpinned,T.keep _ _ _ st5 λb hb o e=>(I7.pin (b,o) (List.mem_append_right _ (List.mem_append_right _ (gM hb e)))).1,λb hb=>?_,w7⟩;obtain⟨o,e,d⟩:=T.obj _ _ st5 b hb;exact(I7.pin (b,o) (List.mem_append_right _ (List.mem_append_right _ (gM hb e)))).2.1
  cases f with
  |next=>obtain⟨σ7,H7,I7,n7⟩:=q7;exact again I7 n7
  |cont=>obtain⟨σ7,H7,I7,n7⟩:=q7;exact again I7 n7
  |brk=>obtain⟨σ7,H7,I7,q7⟩:=q7;exact⟨σ7,H7,I7.unpinned,q7⟩
  |ret v=>obtain⟨x7,σ7,H7,I7,r7,q7⟩:=q7;exact⟨x7,σ7,H7,I7.unpinned,r7,q7⟩
end
theorem Al{K:KG}{a:Addr}{xs:List V}{g:TG}{tb:TS}{D:il}{σ:St}{H:Hp}(Pv:Nat->St->Hp->Prop)(h0:Pv 0 σ H)(hl:∀i σ H,i<=xs.length->Pv i σ H->aQ K H a xs)
  (hs:∀i x σ H,xs[i]?=some x->Pv i σ H->g x σ H λσ2 H2=>tb {D with nx:=Pv (i+1),ct:=Pv (i+1),bk:=D.nx} σ2 H2) (hd:∀σ H,Pv xs.length σ H->D.nx σ H) :
  ∃W:Nat->Nat->St->Hp->Prop,(∃m,W 0 m σ H)/\∀i m σ H,W i m σ H ->
   ((BB K a).stop i H/\D.nx σ H)\/((BB K a).go i H/\∃N:St->Hp->Prop,(∀σ' H',N σ' H'->∃m',m'<m/\W (i+1) m' σ' H')/\∀x H',(BB K a).yld i H x H'->g x σ H' λσ2 H2=>tb {D with nx:=N,ct:=N,bk:=D.nx} σ2 H2):=by
 refine⟨λi m σ H=>m=xs.length-i/\i<=xs.length/\Pv i σ H,⟨xs.length,by simp,J9 _,h0⟩,?_⟩;rintro i m σ H ⟨rfl,hi,p⟩;have q:=hl i σ H hi p
 by_cases hlt:i<xs.length
 ·refine .inr ⟨⟨xs,xs[i],q,by simp[hlt]⟩,Pv (i+1),λσ' H' p'=>⟨xs.length-(i+1),⋯,rfl,hlt,p'⟩,λx H' y=>?_⟩
  obtain⟨e,y⟩:=y;subst e;exact hs i x σ _ (y xs q) p
 ·have e:i=xs.length:=by omega
  subst e;exact .inl ⟨⟨xs,q,J8 _⟩,hd σ H p⟩
theorem yC{lo:Int}{n:Nat}{g:TG}{tb:TS}{D:il}{σ:St}{H:Hp}(Pv:Nat->St->Hp->Prop)(h0:Pv 0 σ H)
  (hs:∀i σ H,i<n->Pv i σ H->g (.int (lo+i)) σ H λσ2 H2=>tb {D with nx:=Pv (i+1),ct:=Pv (i+1),bk:=D.nx} σ2 H2) (hd:∀σ H,Pv n σ H->D.nx σ H) :
  ∃W:Nat->Nat->St->Hp->Prop,(∃m,W 0 m σ H)/\∀i m σ H,W i m σ H ->
   ((zI lo n).stop i H/\D.nx σ H)\/((zI lo n).go i H/\∃N:St->Hp->Prop,(∀σ' H',N σ' H'->∃m',m'<m/\W (i+1) m' σ' H')/\∀x H',(zI lo n).yld i H x H'->g x σ H' λσ2 H2=>tb {D with nx:=N,ct:=N,bk:=D.nx} σ2 H2):=by
 refine⟨λi m σ H=>m=n-i/\i<=n/\Pv i σ H,⟨n,by simp,J9 _,h0⟩,?_⟩;rintro i m σ H ⟨rfl,hi,p⟩
 by_cases hlt:i<n
 ·refine .inr ⟨hlt,Pv (i+1),λσ' H' p'=>⟨n-(i+1),⋯,rfl,hlt,p'⟩,λx H' y=>?_⟩
  obtain⟨e,y⟩:=y;subst e y;exact hs i σ _ hlt p
 ·have e:i=n:=by omega
  subst e;exact .inl ⟨J8 _,hd σ H p⟩
abbrev R2:=V->V->Hp->VK->Prop
def bx(X:Cx)(f:Value->Value->Sem Value)(r:R2):Prop:=
 ∀(pins:KH) (s:KJ) (σ:St) (H:Hp) (x y:V) (v u:Value) (Q:VK),Inv X pins σ H s->bf x v->bf y u->r x y H Q ->
  wpAny (model X.prog X.w) X.A (f v u) (EP X pins σ Q) X.xe s
def g8(X:Cx)(f:Value)(r:List V->Hp->VK->Prop):Prop:=
 ∀(pins:KH) (s:KJ) (σ:St) (H:Hp) (xs:List V) (us:KL) (Q:VK),Inv X pins σ H s->aW xs us->r xs H Q ->
  wpAny (model X.prog X.w) X.A (call f us) (EP X pins σ Q) X.xe s
def Fe(r:R2)(ta tb:TE):TE:=λσ H Q=>ta σ H λx H1=>tb σ H1 λy H2=>r x y H2 Q
def rI(C:Int->Int->Prop)(g:Int->Int->V):R2:=λx y H Q=>∃i j,x=.int i/\y=.int j/\C i j/\Q (g i j) H
def yu(g:Int->Int->V):R2:=λx y H Q=>∃i j,x=.int i/\y=.int j/\Q (g i j) H
section
variable {X:Cx}{a b c:Expr}{ta tb tc:TE}{pos:Pos}
theorem EZ(ha:PE X a ta)(hb:PE X b tb){pins:KH}{s:KJ}{σ:St}{H:Hp}{R:V->V->Hp->Prop}(I:Inv X pins σ H s)
  (h:ta σ H λx H1=>tb σ H1 λy H2=>R x y H2) {Q:KF} {f:Value->Value->Sem Value}
  (hf:∀v u s2 x y H2,Inv X pins σ H2 s2->bf x v->bf y u->R x y H2->wpAny (model X.prog X.w) X.A (f v u) Q X.xe s2) :
  wpAny (model X.prog X.w) X.A (eval a X.env) (λv s₁=>wpAny (model X.prog X.w) X.A (eval b X.env) (λu s₂=>wpAny (model X.prog X.w) X.A (f v u) Q X.xe s₂) X.xe s₁) X.xe s:=by
 refine bU (ha pins s σ H _ I h) λv s1 ⟨x,H1,I1,r1,q1⟩=>?_;refine bU (hb pins s1 σ H1 _ I1 q1) λu s2 ⟨y,H2,I2,r2,q2⟩=>?_;exact hf v u s2 x y H2 I2 r1 r2 q2
theorem az{op:Operator}{r:R2}(ho:bx X (binaryOp op) r)(ha:PE X a ta)(hb:PE X b tb):PE X (.BinOp a op b pos) (Fe r ta tb):=by
 intro pins s σ H Q I h;exact wpAny_BinOp (EZ ha hb I h λv u s2 x y H2 I2 rx ry q=>ho pins s2 σ H2 x y v u Q I2 rx ry q)
theorem GX{f:Value->Value->Sem Value}{C:Int->Int->Prop}{g:Int->Int->Int}
  (rule:∀(i j:Int) (t u:Tok) (s:KJ) (Q:KF) (E:KF),C i j->Q (.int (g i j) s.toks) {s with toks:=s.toks+1}->wpAny (model X.prog X.w) X.A (f (.int i t) (.int j u)) Q E s) :
  bx X f (rI C λi j=>.int (g i j)):=by
 intro pins s σ H x y v u Q I rx ry h;obtain⟨i,j,rfl,rfl,hc,q⟩:=h;obtain⟨t,rfl⟩:=rx;obtain⟨t',rfl⟩:=ry;exact rule i j t t' s _ _ hc ⟨.int (g i j),H,I.tok _,⟨_,rfl⟩,q⟩
theorem Fq{f:Value->Value->Sem Value}{g:Int->Int->Int}
  (rule:∀(i j:Int) (t u:Tok) (s:KJ) (Q:KF) (E:KF),Q (.int (g i j) s.toks) {s with toks:=s.toks+1}->wpAny (model X.prog X.w) X.A (f (.int i t) (.int j u)) Q E s) :
  bx X f (yu λi j=>.int (g i j)):=by
 intro pins s σ H x y v u Q I rx ry h;obtain⟨i,j,rfl,rfl,q⟩:=h;obtain⟨t,rfl⟩:=rx;obtain⟨t',rfl⟩:=ry;exact rule i j t t' s _ _ ⟨.int (g i j),H,I.tok _,⟨_,rfl⟩,q⟩
theorem Ci{f:Value->Value->Sem Value}{g:Int->Int->Bool}
  (rule:∀(i j:Int) (t u:Tok) (s:KJ) (Q:KF) (E:KF),Q (.bool (g i j)) s->wpAny (model X.prog X.w) X.A (f (.int i t) (.int j u)) Q E s) :
  bx X f (yu λi j=>.bl (g i j)):=by
 intro pins s σ H x y v u Q I rx ry h;obtain⟨i,j,rfl,rfl,q⟩:=h;obtain⟨t,rfl⟩:=rx;obtain⟨t',rfl⟩:=ry;exact rule i j t t' s _ _ ⟨.bl (g i j),H,I,rfl,q⟩
def Bt(i j:Int):Prop:=(-(2 ^ 64)<i/\i<2 ^ 64)\/(-(2 ^ 64)<j/\j<2 ^ 64)
theorem Bt.ok{i j:Int}(h:Bt i j):IntMulOk i j:=by
 rcases h with⟨h1,h2⟩ | ⟨h1,h2⟩
 ·exact .of_left (intBits_le_64 h1 h2)
 ·exact .of_right (intBits_le_64 h1 h2)
theorem bi:bx X (binaryOp .Add) (yu λi j=>.int (i+j)):=Fq λ_ _ _ _ _ _ _ q=>add_int q
theorem jI:bx X (binaryOp .Sub) (yu λi j=>.int (i-j)):=Fq λ_ _ _ _ _ _ _ q=>sub_int q
theorem cK:bx X (binaryOp .Mult) (rI Bt λi j=>.int (i*j)):=GX λ_ _ _ _ _ _ _ hc q=>mul_int q hc.ok
theorem bG:bx X (binaryOp .Mod) (rI (λ_ j=>0<j) λi j=>.int (i%j)):=GX λi j _ _ _ _ _ hc q=>by
 have h1:(0:Int)<j:=hc;exact mod_int' ⋯ (by rw[Int.fmod_eq_emod_of_nonneg i ⋯];exact q)
end
def AD:V->V->Bool
 | .non,.non=>true | .non,.int _=>true | .int _,.non=>true | .non,.bl _=>true | .bl _,.non=>true | .non,.str _=>true | .str _,.non=>true
 | .int _,.int _=>true | .bl _,.bl _=>true | .str _,.str _=>true | .byt _,.byt _=>true
 | .int _,.str _=>true | .str _,.int _=>true | .bl _,.str _=>true | .str _,.bl _=>true
 |_,_=>false
def GG:R2:=λx y H Q=>AD x y=true/\Q (.bl (decide (x=y))) H
def GU:R2:=λx y H Q=>AD x y=true/\Q (.bl (!decide (x=y))) H
theorem xr{i j:Int}:decide (V.int i=V.int j)=(i==j):=by
 rw[Bool.eq_iff_iff];simp
theorem Ac{i j:Bool}:decide (V.bl i=V.bl j)=(i==j):=by
 rw[Bool.eq_iff_iff];simp
theorem xK{i j:Str}:decide (V.str i=V.str j)=(i==j):=by
 rw[Bool.eq_iff_iff];simp
theorem xF{i j:Array UInt8}:decide (V.byt i=V.byt j)=(i.toList==j.toList):=by
 rw[Bool.eq_iff_iff];cases i;cases j;simp
section
variable {X:Cx}{a b c:Expr}{ta tb tc:TE}{pos:Pos}
theorem bo{pins:KH}{σ:St}{H:Hp}{s:KJ}{Q:VK}{k k':Bool}(I:Inv X pins σ H s)(q:Q (.bl k) H)(e:k=k'):EP X pins σ Q (.bool k') s:=by
 subst e;exact⟨.bl k,H,I,rfl,q⟩
theorem jZ:bx X (compareOp .Eq) GG:=by
 intro pins s σ H x y v u Q I rx ry h;obtain⟨hs,q⟩:=h;cases x with
 |non=>
  cases rx;cases y with
  |non=>cases ry;exact PySem.EqNone.eq_none_none (bo I q (by simp))
  |bl j=>cases ry;exact PySem.EqNone.eq_none_bool (bo I q (by simp))
  |int j=>obtain⟨t',rfl⟩:=ry;exact PySem.EqNone.eq_none_int (bo I q (by simp))
  |str j=>obtain⟨t',rfl⟩:=ry;exact PySem.EqNone.eq_none_str (bo I q (by simp))
  |_=>exact absurd (show false=true from hs) J_
 |bl i=>
  cases rx;cases y with
  |non=>cases ry;exact PySem.EqNone.eq_bool_none (bo I q (by simp))
  |bl j=>cases ry;exact eq_bool (bo I q Ac)
  |str j=>obtain⟨t',rfl⟩:=ry;exact PySem.EqMixed.eq_bool_str (bo I q (by simp))
  |_=>exact absurd (show false=true from hs) J_
 |int i=>
  obtain⟨t,rfl⟩:=rx;cases y with
  |non=>cases ry;exact PySem.EqNone.eq_int_none (bo I q (by simp))
  |int j=>obtain⟨t',rfl⟩:=ry;exact eq_int (bo I q xr)
  |str j=>obtain⟨t',rfl⟩:=ry;exact PySem.EqMixed.eq_int_str (bo I q (by simp))
  |_=>exact absurd (show false=true from hs) J_
 |str i=>
  obtain⟨t,rfl⟩:=rx;cases y with
  |non=>cases ry;exact PySem.EqNone.eq_str_none (bo I q (by simp))
  |bl j=>cases ry;exact PySem.EqMixed.eq_str_bool (bo I q (by simp))
  |int j=>obtain⟨t',rfl⟩:=ry;exact PySem.EqMixed.eq_str_int (bo I q (by simp))
  |str j=>obtain⟨t',rfl⟩:=ry;exact eq_str (bo I q xK)
  |_=>exact absurd (show false=true from hs) J_
 |byt i=>
  obtain⟨t,rfl⟩:=rx;cases y with
  |byt j=>obtain⟨t',rfl⟩:=ry;exact PySem.W.eq_bytes (bo I q xF)
  |_=>exact absurd (show false=true from hs) J_
 |_=>cases y<;>exact absurd (show false=true from hs) J_
theorem Aw:bx X (compareOp .NotEq) GU:=by
 intro pins s σ H x y v u Q I rx ry h;obtain⟨hs,q⟩:=h;cases x with
 |non=>
  cases rx;cases y with
  |non=>cases ry;exact PySem.EqNone.ne_none_none (bo I q (by simp))
  |bl j=>cases ry;exact PySem.EqNone.ne_none_bool (bo I q (by simp))
  |int j=>obtain⟨t',rfl⟩:=ry;exact PySem.EqNone.ne_none_int (bo I q (by simp))
  |str j=>obtain⟨t',rfl⟩:=ry;exact PySem.EqNone.ne_none_str (bo I q (by simp))
  |_=>exact absurd (show false=true from hs) J_
 |bl i=>
  cases rx;cases y with
  |non=>cases ry;exact PySem.EqNone.ne_bool_none (bo I q (by simp))
  |bl j=>cases ry;exact ne_bool (bo I q (congrArg not Ac))
  |str j=>obtain⟨t',rfl⟩:=ry;exact PySem.EqMixed.ne_bool_str (bo I q (by simp))
  |_=>exact absurd (show false=true from hs) J_
 |int i=>
  obtain⟨t,rfl⟩:=rx;cases y with
  |non=>cases ry;exact PySem.EqNone.ne_int_none (bo I q (by simp))
  |int j=>obtain⟨t',rfl⟩:=ry;exact ne_int (bo I q (congrArg not xr))
  |str j=>obtain⟨t',rfl⟩:=ry;exact PySem.EqMixed.ne_int_str (bo I q (by simp))
  |_=>exact absurd (show false=true from hs) J_
 |str i=>
  obtain⟨t,rfl⟩:=rx;cases y with
  |non=>cases ry;exact PySem.EqNone.ne_str_none (bo I q (by simp))
  |bl j=>cases ry;exact PySem.EqMixed.ne_str_bool (bo I q (by simp))
  |int j=>obtain⟨t',rfl⟩:=ry;exact PySem.EqMixed.ne_str_int (bo I q (by simp))
  |str j=>obtain⟨t',rfl⟩:=ry;exact ne_str (bo I q (congrArg not xK))
  |_=>exact absurd (show false=true from hs) J_
 |byt i=>
  obtain⟨t,rfl⟩:=rx;cases y with
  |byt j=>obtain⟨t',rfl⟩:=ry;exact PySem.W.ne_bytes (bo I q (congrArg not xF))
  |_=>exact absurd (show false=true from hs) J_
 |_=>cases y<;>exact absurd (show false=true from hs) J_
theorem uk:bx X (compareOp .Lt) (yu λi j=>.bl (decide (i<j))):=Ci λ_ _ _ _ _ _ _ q=>lt_int q
theorem uQ:bx X (compareOp .LtE) (yu λi j=>.bl (decide (i<=j))):=Ci λ_ _ _ _ _ _ _ q=>le_int q
theorem wZ:bx X (compareOp .Gt) (yu λi j=>.bl (decide (j<i))):=Ci λ_ _ _ _ _ _ _ q=>gt_int q
theorem FM:bx X (compareOp .GtE) (yu λi j=>.bl (decide (j<=i))):=Ci λ_ _ _ _ _ _ _ q=>ge_int q
theorem yB:bx X (compareOp .In) (λx y H Q=>∃i j,x=.str i/\y=.str j/\Q (.bl (!(Builtin.Str.occurrences j i 0 j.length 1).isEmpty)) H):=by
 intro pins s σ H x y v u Q I rx ry h;obtain⟨i,j,rfl,rfl,q⟩:=h;obtain⟨t,rfl⟩:=rx;obtain⟨t',rfl⟩:=ry;exact in_str (bo I q rfl)
theorem EL:bx X (compareOp .Is) (λx y H Q=>y=.non/\Q (.bl (decide (x=.non))) H):=by
 intro pins s σ H x y v u Q I rx ry h;obtain⟨rfl,q⟩:=h;cases ry;refine is_none_gen (bo I q ?_);cases x<;>first
  | (cases rx;rfl)
  | (obtain⟨t,rfl⟩:=rx;rfl)
theorem Cj:bx X (compareOp .IsNot) (λx y H Q=>y=.non/\Q (.bl (!decide (x=.non))) H):=by
 intro pins s σ H x y v u Q I rx ry h;obtain⟨rfl,q⟩:=h;cases ry;refine isnot_none_gen (bo I q ?_);cases x<;>first
  | (cases rx;rfl)
  | (obtain⟨t,rfl⟩:=rx;rfl)
theorem r9:bx X (compareOp .NotIn) (λx y H Q=>∃i j,x=.str i/\y=.str j/\Q (.bl (!(!(Builtin.Str.occurrences j i 0 j.length 1).isEmpty))) H):=by
 intro pins s σ H x y v u Q I rx ry h;obtain⟨i,j,rfl,rfl,q⟩:=h;obtain⟨t,rfl⟩:=rx;obtain⟨t',rfl⟩:=ry;exact notIn_str (bo I q rfl)
theorem bO(b:Expr){op:CmpOp}(h:autoParam (op≠.In) zz1._auto_1)(h2:autoParam (op≠.NotIn) zz1._auto_1):behindInMarks op b=false:=by
 have e1:(op==CmpOp.In)=false:=by cases op<;>first | rfl | exact absurd rfl h
 have e2:(op==CmpOp.NotIn)=false:=by cases op<;>first | rfl | exact absurd rfl h2
 cases b<;>simp[behindInMarks,e1,e2]
theorem xc{op:CmpOp}{r:R2}(ho:bx X (compareOp op) r)(ha:PE X a ta)(hb:PE X b tb)(hm:behindInMarks op b=false):PE X (.Compare a [op] [b] pos) (Fe r ta tb):=by
 intro pins s σ H Q I h;exact wpAny_Compare1 (EZ ha hb I h λv u s2 x y H2 I2 rx ry q=>ho pins s2 σ H2 x y v u Q I2 rx ry q) hm
def xt(t:TE):TT:=λσ H Q=>t σ H λx H'=>∃k,x=.bl k/\Q k H'
theorem br{op:CmpOp}{r:R2}(ho:bx X (compareOp op) r)(ha:PE X a ta)(hb:PE X b tb)(hm:behindInMarks op b=false):PT X (.Compare a [op] [b] pos) (xt (Fe r ta tb)):=by
 intro pins s σ H Q I h;refine wpAny_isTrue_Compare1 (bU (ha pins s σ H _ I h) λv s1 ⟨x,H1,I1,r1,q1⟩=>bU (hb pins s1 σ H1 _ I1 q1) λu s2 ⟨y,H2,I2,r2,q2⟩=>
  bU (ho pins s2 σ H2 x y v u _ I2 r1 r2 q2) λc s3 ⟨z,H3,I3,r3,k,e,q3⟩=>?_) hm
 subst e;cases r3;exact wpAny_truthy_bool ⟨H3,I3,q3⟩
def wF(r r':R2)(ta tb tc:TE):TE:=λσ H Q=>ta σ H λx H1=>tb σ H1 λy H2=>r x y H2 λz H3=>∃k,z=.bl k /\
 (if k=true then tc σ H3 λw' H4=>r' y w' H4 Q else Q (.bl false) H3)
theorem uV{op op':CmpOp}{r r':R2}(ho:bx X (compareOp op) r)(ho':bx X (compareOp op') r')(ha:PE X a ta)(hb:PE X b tb)(hc:PE X c tc)
  (hm:lastMarks [op,op'] [b,c]=false:=by with_unfolding_all rfl):PE X (.Compare a [op,op'] [b,c] pos) (wF r r' ta tb tc):=by
 intro pins s σ H Q I h;refine Compare_chain (bU (ha pins s σ H _ I h) λv s1 ⟨x,H1,I1,r1,q1⟩=>chain_link (bU (hb pins s1 σ H1 _ I1 q1) λu s2 ⟨y,H2,I2,r2,q2⟩=>
  bU (ho pins s2 σ H2 x y v u _ I2 r1 r2 q2) λd s3 ⟨z,H3,I3,r3,k,e,q3⟩=>?_)) hm
 subst e;cases r3;refine wpAny_truthy_bool ?_;cases k with
 |false=>exact ite_ff ⟨.bl false,H3,I3,rfl,q3⟩
 |true=>exact ite_tt (chain_last (bU (hc pins s3 σ H3 _ I3 q3) λw' s4 ⟨z',H4,I4,r4,q4⟩=>ho' pins s4 σ H4 y z' u w' Q I4 r2 r4 q4))
theorem nq:(sizeLine:Nat)<2 ^ 63:=by rw[sizeLine_eq];decide
theorem nZ:bx X (binaryOp .Add) (λx y H Q=>∃i j,x=.str i/\y=.str j/\i.length+j.length<=sizeLine/\Q (.str (i++j)) H):=by
 intro pins s σ H x y v u Q I rx ry h;obtain⟨i,j,rfl,rfl,hz,q⟩:=h;obtain⟨t,rfl⟩:=rx;obtain⟨t',rfl⟩:=ry;exact add_str (λt' tk=>⟨.str (i++j),H,I.tok _,⟨_,rfl⟩,q⟩) hz
theorem vf{x:V}{us:KL}(r:aW [x] us):∃u,us=[u]/\bf x u:=by
 cases r with
 |cons r1 r2=>cases r2;exact⟨_,rfl,r1⟩
theorem FG{x y:V}{us:KL}(r:aW [x,y] us):∃u w',us=[u,w']/\bf x u/\bf y w':=by
 cases r with
 |cons r1 r2=>
  cases r2 with
  |cons r3 r4=>cases r4;exact⟨_,_,rfl,r1,r3⟩
theorem qz(hc:X.calm=true):g8 X (.builtin "min") (λxs H Q=>∃i j,xs=[.int i,.int j]/\Q (.int (if j<i then j else i)) H):=by
 intro pins s σ H xs us Q I r h;obtain⟨i,j,rfl,q⟩:=h;obtain⟨u,w',rfl,⟨t,rfl⟩,⟨t',rfl⟩⟩:=FG r;refine min_two_ints (I.ok.hd hc) λh' tk k=>⟨_,H,I.kept k,?_,q⟩
 by_cases hj:j<i
 ·rw[if_pos hj,if_pos hj];exact⟨_,rfl⟩
 ·rw[if_neg hj,if_neg hj];exact⟨_,rfl⟩
end
structure wx(h:Heap)(x dx C:Addr)(mA:KN):Prop where
 obj:h.get? x=some (PySem.W.instObj C dx)
 ns:h.Ns1 dx mA
 ne:dx≠x
theorem zu{h:Heap}{dx:Addr}{mA:KN}(n:h.Ns1 dx mA):∃od,h.get? dx=some od/\∀name,PySem.W.lookIn name od=some (mA name):=by
 obtain⟨o,es,ep,ho,hd,hk,_,hm⟩:=n;refine⟨o,ho,λname=>?_⟩;have e:=hm name;unfold nsFind findBy at e;rw[<- Array.find?_toList]at e;unfold PySem.W.lookIn;rw[hd];dsimp only
 split
 ·rename_i y q
  rw[q]at e;exact congrArg some e
 ·rename_i q
  rw[q]at e;have a:es.toList.any (·.refKey)=false:=by
   rw[List.any_eq_false];intro y hy;obtain⟨z,t,hkey⟩:=hk y (Array.mem_toList_iff.mp hy);simp[DictEntry.refKey,hkey]
  have a':¬ es.toList.any (·.refKey)=true:=by rw[a];exact J_
  rw[if_neg a'];exact congrArg some e
theorem wx.look{h:Heap}{x dx C:Addr}{mA:KN}(I:wx h x dx C mA):∃od,PySem.W.InstAt h x (PySem.W.instObj C dx) C (some od)/\∀name,PySem.W.lookIn name od=some (mA name):=
 let ⟨od,ho,hl⟩:=zu I.ns
 ⟨od,⟨I.obj,rfl,rfl,ho⟩,hl⟩
section
variable {prog:KP}{w:KS}{A:KR}{E:KF}{s:KJ}{K:KG}{x dx C f:Addr}{mA:KN}{name:Str}{v:Value}
theorem C5{expr:Bool}{Q:KF}(X:K.In s.heap)(I:wx s.heap x dx C mA)(hg:PySem.W.plainGet K C name=true)(hh:PySem.W.hasDictIn K C=true)
  (ha:PySem.W.findIn K (.ref C) name=some none) (hv:mA name=some v) (hv':PySem.W.handedIn v=true) (h:Q v {s with toks:=s.toks+1}) :
  wpAny (model prog w) A (getAttr (.ref x) name expr) Q E s:=by
 obtain⟨od,J,hl⟩:=I.look;exact PySem.W.get_value X J (PySem.W.plainGet_of hg).1 (PySem.W.findObj_own hh ha rfl (by rw[hl,hv])) hv' h
theorem AR{pl:Sem Bool}{Q:Value×List Value->Shared->Prop}(X:K.In s.heap)(I:wx s.heap x dx C mA)(hg:PySem.W.plainGet K C name=true)
  (hf:PySem.W.findIn K (.ref C) name=some (some (.ref f))) (ht:PySem.W.isFn K (.ref f)=true) (hv:mA name=none) (h:Q (.ref f,[.ref x]) s) :
  wpAny (model prog w) A (getMethod (.ref x) name pl) Q E s:=by
 obtain⟨od,J,hl⟩:=I.look;exact PySem.W.method_fn X J (PySem.W.plainGet_of hg).1 (PySem.W.plainGet_of hg).2 hf (beq_iff_eq.mp ht) (by show(PySem.W.lookIn name od).map (·.isSome)=some false;rw[hl,hv];rfl) h
theorem Do{ns:KQ}{Q:Unit->Shared->Prop}(X:K.In s.heap)(I:wx s.heap x dx C mA)
  (hs:PySem.W.findIn K (.ref C) "__setattr__"=some (some (.builtin "object.__setattr__"))) (hp:PySem.W.plainOver K C=true) (ht:PySem.W.takerIn K C name=some none) (hh:PySem.W.hasDictIn K C=true)
  (hw:PySem.Within mA ns) (hsz:ns.length<=sizeLine)
  (h:∀h',wx h' x dx C (λy=>if y=name then some v else mA y)->Heap.SameBut dx s.heap h'->Q () {s with heap:=h',toks:=s.toks+2}) :
  wpAny (model prog w) A (setAttr (.ref x) name v) Q E s:=by
 obtain⟨od,J,hl⟩:=I.look;refine PySem.W.set_plain X J hs (PySem.W.osa_open (s:={s with toks:=s.toks+1}) (r:=none) X J hp ht λb=>?_);obtain⟨cd,hc,hd'⟩:=PySem.W.any_some hh;have hx:s.heap.get? x=some ⟨.ref C,some dx,.plain,#[]⟩:=I.obj;refine wpAny_bind (wpAny_pure (wpAny_bind (wpAny_bind (wpAny_loadPart hx (wpAny_bind (PySem.W.Looks.here (s:={s with toks:=s.toks+1}) (PySem.W.looks_clsIn X hc) ?_))))));rw[hd'];refine wpAny_pure (a:=some dx) (wpAny_bind (wpAny_pure (wpAny_bind ?_)));refine wpAny_nsSet1 (s:={s with toks:=s.toks+1}) I.ns λh' hn2 hs2=>?_;obtain⟨oD,esD,epD,hoD,hdD,hcD⟩:=hn2.count (PySem.Within.cons name v hw);refine wpAny_bind (wpAny_lookBehind hoD (by rw[hdD];exact pastItsLine_dict (Kd hcD (by rw[JW];omega))) ?_);exact wpAny_pure (h _ ⟨(hs2.2 _ (Ne.symm I.ne)).trans I.obj,hn2,I.ne⟩ hs2)
theorem By{R:Result->Shared->Prop}{vs:KL}{kw:List (Str×Value)}(X:K.In s.heap)(hm:PySem.W.makesIn K C=true)
  (hi:PySem.W.findIn K (.ref C) "__init__"=some (some (.ref f))) (hf:PySem.W.typeIn K (.ref f)=some (.type "function"))
  (h:codeAny (model prog w) (A.under (.builtin "type.__call__" ⟨.ref C::vs,kw⟩)) (.call (.ref f) ⟨.ref (s.heap.objs.size+1)::vs,kw⟩) (PySem.W.InitBack (s.heap.objs.size+1) R)
   {s with heap:=(s.heap.push PySem.W.emptyDict).push (PySem.W.instObj C s.heap.objs.size)}) :
  codeAny (model prog w) A (.call (.ref C) ⟨vs,kw⟩) R s:=by
 obtain⟨hh,g,d,t,os⟩:=s;exact PySem.W.make_core (PySem.W.makes_of X hm) (PySem.W.looks_findIn X hi) (λself=>PySem.W.bind_fn X self hf) (.inl rfl) h
end
def cq(f:Str)(v:V):List (Str×V)->List (Str×V)
 | []=>[(f,v)]
 | (g,x)::r=>if g=f then(g,v)::r else(g,x)::cq f v r
theorem lU(f g:Str)(v:V):∀fs:List (Str×V),(cq f v fs).lookup g=if g=f then some v else fs.lookup g
 | []=>by
  show List.lookup g [(f,v)]=_
  by_cases h:g=f
  ·have hb:(g==f)=true:=beq_iff_eq.mpr h
   simp only[List.lookup,hb,if_pos h]
  ·have hb:(g==f)=false:=beq_eq_false_iff_ne.mpr h
   simp only[List.lookup,hb,if_neg h]
 | (k,x)::r=>by
  have ih:=lU f g v r;rw[show cq f v ((k,x)::r)=(if k=f then(k,v)::r else(k,x)::cq f v r) from rfl]
  by_cases hk:k=f
  ·rw[if_pos hk]
   by_cases h:g=k
   ·have hb:(g==k)=true:=beq_iff_eq.mpr h
    simp only[List.lookup,hb,if_pos (h.trans hk)]
   ·have hb:(g==k)=false:=beq_eq_false_iff_ne.mpr h
    simp only[List.lookup,hb,if_neg (λe:g=f=>h (e.trans hk.symm))]
  ·rw[if_neg hk]
   by_cases h:g=k
   ·have hb:(g==k)=true:=beq_iff_eq.mpr h
    simp only[List.lookup,hb,if_neg (λe:g=f=>hk (h.symm.trans e))]
   ·have hb:(g==k)=false:=beq_eq_false_iff_ne.mpr h
    simp only[List.lookup,hb];exact ih
theorem lc(f:Str)(v:V):∀fs:List (Str×V),f∈(cq f v fs).map (·.1)/\∀g,g∈fs.map (·.1)->g∈(cq f v fs).map (·.1)
 | []=>⟨by simp[cq],λg h=>by simp at h⟩
 | (k,x)::r=>by
  obtain⟨i1,i2⟩:=lc f v r;rw[show cq f v ((k,x)::r)=(if k=f then(k,v)::r else(k,x)::cq f v r) from rfl]
  by_cases hk:k=f
  ·rw[if_pos hk]
   subst hk;exact⟨by simp,λg h=>by simpa using h⟩
  ·rw[if_neg hk]
   refine⟨?_,λg h=>?_⟩
   ·rw[Kc]
    exact J1 _ i1
   ·rw[Kc]at h ⊢
    rcases J0.mp h with e | e
    ·exact J0.mpr (.inl e)
    ·exact J1 _ (i2 g e)
theorem cX(f:Str)(v:V):∀fs:List (Str×V),(cq f v fs).length<=fs.length+1
 | []=>by simp[cq]
 | (k,x)::r=>by
  have ih:=cX f v r;rw[show cq f v ((k,x)::r)=(if k=f then(k,v)::r else(k,x)::cq f v r) from rfl]
  by_cases hk:k=f
  ·rw[if_pos hk,JW,JW];omega
  ·rw[if_neg hk,JW,JW];omega
theorem gO.some_of{v:V}{o:Option Value}(r:gO (some v) o):∃u,o=some u/\bf v u:=by
 cases o with
 |none=>exact(show False from r).elim
 |some u=>exact⟨u,rfl,r⟩
theorem gO.none_of{o:Option Value}(r:gO none o):o=none:=by
 cases o with
 |none=>rfl
 |some u=>exact(show False from r).elim
theorem yv{v:V}{u:Value}(r:bf v u):PySem.W.handedIn u=true:=by
 cases v with
 |non=>cases(show u=Value.none from r);rfl
 |bl b=>cases(show u=Value.bool b from r);rfl
 |int i=>obtain⟨t,e⟩:=(show ∃t,u=Value.int i t from r);cases e;rfl
 |str x=>obtain⟨t,e⟩:=(show ∃t,u=Value.str x t from r);cases e;rfl
 |byt b=>obtain⟨t,e⟩:=(show ∃t,u=Value.bytes b t from r);cases e;rfl
 |flt b=>obtain⟨t,e⟩:=(show ∃t,u=Value.float b t from r);cases e;rfl
 |ref a=>cases(show u=Value.ref a from r);rfl
 |ty n=>cases(show u=Value.type n from r);rfl
section
variable {P:KP}{w:KS}{H H':Hp}{h h':Heap}{a C dx:Addr}{fs fs':List (Str×V)}
theorem m8(hok:je P w H h)(e:H a=some (.ins C dx fs)):∃mA,wx h a dx C mA/\(∀f,gO (fs.lookup f) (mA f))/\PySem.Within mA (fs.map (·.1))/\fs.length<=1000/\H dx=some (.own a):=by
 obtain⟨d,z,ne,ob,mA,n,r,q⟩:=(show bN P w H h a (.ins C dx fs) from hok a _ e);exact⟨mA,⟨ob,n,ne⟩,r,q,z,d⟩
end
structure iQ(K:KG)(C:Addr):Prop where
 pg:PySem.W.plainGet K C Str.empty=true
 hd:PySem.W.hasDictIn K C=true
 po:PySem.W.plainOver K C=true
 sa:PySem.W.findIn K (.ref C) "__setattr__"=some (some (.builtin "object.__setattr__"))
theorem iQ.get{K:KG}{C:Addr}(c:iQ K C)(f:Str):PySem.W.plainGet K C f=true:=c.pg
def ax(K:KG)(C:Addr)(f:Str):Prop:=PySem.W.findIn K (.ref C) f=some none
theorem ax.taker{K:KG}{C:Addr}{f:Str}(n:ax K C f):PySem.W.takerIn K C f=some none:=by
 unfold PySem.W.takerIn;rw[show PySem.W.findIn K (.ref C) f=some none from n]
 rfl
structure JH(K:KG)(C:Addr)(f:Str)(v:V)(u:Value):Prop where
 at_:PySem.W.findIn K (.ref C) f=some (some u)
 rel:bf v u
 get:PySem.W.specialIn K u "__get__"=some none
 cp:PySem.W.copiedNames.contains f=false
structure ik(K:KG)(C:Addr)(m:Str)(f:Addr):Prop where
 at_:PySem.W.findIn K (.ref C) m=some (some (.ref f))
 fn:PySem.W.isFn K (.ref f)=true
 kp:PySem.W.keepIn K (.ref f)=true
section
variable {X:Cx}{pins:KH}{σ:St}{H:Hp}{s:KJ}{a C dx:Addr}{fs:List (Str×V)}{f:Str}{v:V}{A:KR}{E:KF}
theorem vX{b:Bool}{Q:KF}(I:Inv X pins σ H s)(e:H a=some (.ins C dx fs))(c:iQ X.K C)(n:ax X.K C f)(l:fs.lookup f=some v)
  (h:∀u s',Inv X pins σ H s'->bf v u->Q u s'):wpAny (model X.prog X.w) A (getAttr (.ref a) f b) Q E s:=by
 obtain⟨mA,O,r,_,_,_⟩:=m8 I.hok e;obtain⟨u,hu,ru⟩:=gO.some_of (v:=v) (o:=mA f) (by rw[<- l];exact r f);exact C5 I.kIn O (c.get f) c.hd n hu (yv ru) (h u _ (I.tok _) ru)
theorem ft{m:Str}{g:Addr}{pl:Sem Bool}{Q:Value×List Value->Shared->Prop}(I:Inv X pins σ H s)(e:H a=some (.ins C dx fs))(c:iQ X.K C)(k:ik X.K C m g)(l:fs.lookup m=none)
  (h:Q (.ref g,[.ref a]) s):wpAny (model X.prog X.w) A (getMethod (.ref a) m pl) Q E s:=by
 obtain⟨mA,O,r,_,_,_⟩:=m8 I.hok e;have hn:mA m=none:=gO.none_of (by rw[<- l];exact r m);exact AR I.kIn O (c.get m) k.at_ k.fn hn h
theorem wb{y:V}{u:Value}{Q:Unit->Shared->Prop}(I:Inv X pins σ H s)(e:H a=some (.ins C dx fs))(c:iQ X.K C)(n:ax X.K C f)(hl:fs.length<1000)(ry:bf y u)
  (h:∀s',Inv X pins σ (aC H a (.ins C dx (cq f y fs))) s'->Q () s'):wpAny (model X.prog X.w) A (setAttr (.ref a) f u) Q E s:=by
 obtain⟨mA,O,r,wi,_,ho⟩:=m8 I.hok e;have hz:(fs.map (·.1)).length<=sizeLine:=by rw[JM,sizeLine_eq];omega
 refine Do I.kIn O c.sa c.po n.taker c.hd wi hz λh' O' sb=>h _ ?_;have hd:∃o,h'.get? dx=some o:=let ⟨o,_,_,e',_⟩:=O'.ns;⟨o,e'⟩
 refine I.write (x:=a) (e:=dx) (by rw[e];exact True.intro) (.inr ho) (λb q hb z=>(sb.2 b hb).trans z) hd ?_;refine⟨by rw[ai O.ne];exact ho,?_,O.ne,O'.obj,_,O'.ns,λg=>?_,λg hg=>?_⟩
 ·have:=cX f y fs;omega
 ·show gO ((cq f y fs).lookup g) (if g=f then some u else mA g)
  rw[lU]
  by_cases q:g=f
  ·rw[if_pos q,if_pos q];exact ry
  ·rw[if_neg q,if_neg q];exact r g
 ·by_cases q:g=f
  ·rw[q];exact(lc f y fs).1
  ·refine(lc f y fs).2 g (wi g λz=>hg ?_)
   show(if g=f then some u else mA g)=none;rw[if_neg q];exact z
theorem Inv.made(I:Inv X pins σ H s):Inv X pins σ (aC (aC H s.heap.objs.size (.own (s.heap.objs.size+1))) (s.heap.objs.size+1) (.ins C s.heap.objs.size []))
  {s with heap:=(s.heap.push PySem.W.emptyDict).push (PySem.W.instObj C s.heap.objs.size)}:=by
 have e1:(s.heap.push PySem.W.emptyDict).get? s.heap.objs.size=some PySem.W.emptyDict:=JR s.heap rfl;have e2:((s.heap.push PySem.W.emptyDict).push (PySem.W.instObj C s.heap.objs.size)).get? (s.heap.objs.size+1)=some (PySem.W.instObj C s.heap.objs.size):=by
  have:=JR (s.heap.push PySem.W.emptyDict) (o:=PySem.W.instObj C s.heap.objs.size) rfl
  rwa [Heap.size_push]at this
 have e3:(s.heap.push PySem.W.emptyDict).Ns s.heap.objs.size (λ_=>none):=⟨PySem.W.emptyDict,#[],_,e1,rfl,(λe he=>absurd he (by simp)),λ_=>rfl⟩;have I1:=I.laid (a:=s.heap.objs.size) (o:=.own (s.heap.objs.size+1)) (h':=s.heap.push PySem.W.emptyDict) (t':=s.toks) (λb u q=>JL _ q) (J8 _) ⟨_,e1⟩;refine I1.laid (a:=s.heap.objs.size+1) (o:=.ins C s.heap.objs.size []) (t':=s.toks) (λb u q=>JL _ q) (Nat.le_of_eq (Heap.size_push _ _)) ?_;have ne:s.heap.objs.size≠s.heap.objs.size+1:=J4 (Kf _);refine⟨by rw[ai ne,ae],J9 _,ne,e2,λ_=>none,(Heap.Ns1.of_empty e3).at λo q=>JL _ q,λ_=>True.intro,λy hy=>absurd rfl hy⟩
theorem Dq{prog:KP}{w:KS}{env:Env}{e:Expr}{f:Str}{pos:Pos}{s:KJ}{Q:KF}(hb:attributeBase e f env (eval e env)=eval e env)
  (h:wpAny (model prog w) A (eval e env) (λo s₁=>wpAny (model prog w) A (getAttr o f true) Q E s₁) E s):wpAny (model prog w) A (eval (.Attribute e f pos) env) Q E s:=
 Attribute_any_ h (by rw[arm_eval_Attribute,hb])
end
def Dk(K:KG)(ta:TE)(f:Str):TE:=λσ H Q=>ta σ H λx H1=>∃a C dx fs v,x=.ref a/\H1 a=some (.ins C dx fs)/\iQ K C/\ax K C f/\fs.lookup f=some v/\Q v H1
def EF(K:KG)(ta tv:TE)(f:Str):TS:=λD σ H=>tv σ H λy H1=>ta σ H1 λx H2=>∃a C dx fs,x=.ref a/\H2 a=some (.ins C dx fs)/\iQ K C/\ax K C f/\fs.length<1000 /\
 D.nx σ (aC H2 a (.ins C dx (cq f y fs)))
section
variable {X:Cx}{o e value:Expr}{f:Str}{pos pos' tpos:Pos}{ta tv:TE}
theorem bK(he:PE X e ta)(hb:attributeBase e f X.env (eval e X.env)=eval e X.env):PE X (.Attribute e f pos) (Dk X.K ta f):=by
 intro pins s σ H Q I h;refine Dq hb (bU (he pins s σ H _ I h) λu s1 ⟨x,H1,I1,rx,a,C,dx,fs,v,ex,ea,c,n,l,q⟩=>?_);subst ex;obtain rfl:u=Value.ref a:=rx;exact vX I1 ea c n l λu' s2 I2 ru=>⟨v,H1,I2,ru,q⟩
theorem cL(ha:PE X o ta)(hv:PE X value tv)(hs:swapsWith value (some (.Attribute o f pos')) pos.line X.env=pure false):PS X (.Assign [.Attribute o f pos'] value pos) (EF X.K ta tv f):=by
 intro pins s σ H D I h;refine plainObj_wpAny_Assign_Attribute (bU (hv pins s σ H _ I h) λu s1 ⟨y,H1,I1,ry,q⟩=>bU (ha pins s1 σ H1 _ I1 q) λov s2 ⟨x,H2,I2,rx,a,C,dx,fs,ex,ea,c,n,l,q2⟩=>?_) hs;subst ex;obtain rfl:ov=Value.ref a:=rx;exact wb I2 ea c n l ry λs3 I3=>⟨σ,_,I3,q2⟩
theorem DW{pl:Sem Bool}{m:Str}{apos:Pos}{args:KW}{pins:KH}{s:KJ}{σ:St}{H:Hp}{Q:KF}{te:TE}(he:PE X e te)(I:Inv X pins σ H s)
  (h:te σ H λx H1=>∃a C dx fs g,x=.ref a/\H1 a=some (.ins C dx fs)/\iQ X.K C/\ik X.K C m g/\fs.lookup m=none /\
   ∀s1,Inv X pins σ H1 s1->wpAny (model X.prog X.w) X.A (callWith pos (.ref g) [.ref a] (backTo pos (starEach args X.env)) (backToKw pos (keywordEach [] X.env))) Q X.xe s1)
  (ht:eval (.Call (.Attribute e m apos) args [] pos) X.env=(do
   let ov <- eval e X.env
   standAt apos.atName
   let (f,first) <- holding [ov] (getMethod ov m pl)
   callWith pos f first (backTo pos (starEach args X.env)) (backToKw pos (keywordEach [] X.env)))) :
  wpAny (model X.prog X.w) X.A (eval (.Call (.Attribute e m apos) args [] pos) X.env) Q X.xe s:=by
 refine PySem.W.methodCall_KW (pl:=pl) (bU (he pins s σ H _ I h) λu s1 ⟨x,H1,I1,rx,a,C,dx,fs,g,ex,ea,c,k,l,q⟩=>?_) ht;subst ex;obtain rfl:u=Value.ref a:=rx;exact ft I1 ea c k l (q s1 I1)
end
section
variable {X:Cx}{pins:KH}{σ:St}{H:Hp}{s:KJ}{A:KR}{E:KF}{Q:KF}{c:Value}{b:Bool}
inductive i'(K:KG)(H:Hp):V->Value->Prop where
 |non:i' K H .non (.type "NoneType")
 |bl (x:Bool):i' K H (.bl x) (.type "bool")
 |int (i:Int):i' K H (.int i) (.type "int")
 |str (x:Str):i' K H (.str x) (.type "str")
 |flt (x:UInt64):i' K H (.flt x) (.type "float")
 |lst {a:Addr} {xs:List V} (e:H a=some (.lst xs)):i' K H (.ref a) (.type "list")
 |frz {a:Addr} {o:Obj} {xs:List V} (e:H a=some (.frz o (.lst xs))):i' K H (.ref a) (.type "list")
 |tup {a:Addr} {xs:List V} (e:H a=some (.tup xs)):i' K H (.ref a) (.type "tuple")
 |dK {a:Addr} {kvs:List (cC×V)} (e:H a=some (.dK kvs)):i' K H (.ref a) (.type "dict")
 |dT {a:Addr} {kvs:List (List cC×V)} (e:H a=some (.dT kvs)):i' K H (.ref a) (.type "dict")
 |ins {a C dx:Addr} {fs:List (Str×V)} (e:H a=some (.ins C dx fs)) (cl:iQ K C) (ha:PySem.W.findIn K (.ref C) "__class__"=some (some (.builtin "object.__class__")))
   (hn:PySem.W.specialIn K (.builtin "object.__class__") "__get__"=some (some (.builtin "getset_descriptor.__get__"))) (htk:PySem.W.takesIn K (.builtin "object.__class__")=some true)
   (hm:PySem.W.mroIn K C (.type "object")=some true):i' K H (.ref a) (.ref C)
theorem xX{x:V}{u t:Value}(I:Inv X pins σ H s)(rx:bf x u)(ty:i' X.K H x t)(e:PySem.W.kitOne X.K t c=some b)(h:∀tk,Q (.bool b) {s with toks:=tk}) :
  wpAny (model X.prog X.w) A (call (.builtin "isinstance") [u,c]) Q E s:=by
 cases ty with
 |non=>cases(show u=Value.none from rx);exact PySem.W.kia_one PySem.W.kitx_none I.kIn True.intro e (λz=>nomatch z) h
 |bl y=>cases(show u=Value.bool y from rx);exact PySem.W.kia_one PySem.W.kitx_bool I.kIn True.intro e (λz=>nomatch z) h
 |int i=>obtain⟨t,q⟩:=(show ∃t,u=Value.int i t from rx);cases q;exact PySem.W.kia_one PySem.W.kitx_int I.kIn True.intro e (λz=>nomatch z) h
 |str y=>obtain⟨t,q⟩:=(show ∃t,u=Value.str y t from rx);cases q;exact PySem.W.kia_one PySem.W.kitx_str I.kIn True.intro e (λz=>nomatch z) h
 |flt y=>obtain⟨t,q⟩:=(show ∃t,u=Value.float y t from rx);cases q;exact PySem.W.kia_one PySem.W.kitx_float I.kIn True.intro e (λz=>nomatch z) h
 | @lst a xs ea=>
  cases(show u=Value.ref a from rx);obtain⟨_,_,n,_,h1⟩:=(show bN X.prog X.w H s.heap a (.lst xs) from I.hok a _ ea);exact PySem.W.kia_one PySem.W.kitx_list I.kIn ⟨_,h1,rfl⟩ e (λz=>nomatch z) h
 | @frz a ob xs ea=>
  cases(show u=Value.ref a from rx);obtain⟨_,_,_,n,_,h1⟩:=(show bN X.prog X.w H s.heap a (.frz ob (.lst xs)) from I.hok a _ ea);exact PySem.W.kia_one PySem.W.kitx_list I.kIn ⟨_,h1,rfl⟩ e (λz=>nomatch z) h
 | @tup a xs ea=>
  cases(show u=Value.ref a from rx);obtain⟨_,_,_,p⟩:=(show bN X.prog X.w H s.heap a (.tup xs) from I.hok a _ ea);obtain⟨o,h1,h2,_⟩:=p;exact PySem.W.kia_one PySem.W.kitx_tuple I.kIn ⟨o,h1,h2⟩ e (λz=>nomatch z) h
 | @dK a kvs ea=>
  cases(show u=Value.ref a from rx);obtain⟨_,_,vs,_,p⟩:=(show bN X.prog X.w H s.heap a (.dK kvs) from I.hok a _ ea);obtain⟨o,es,ep,h1,h2,_⟩:=p;exact PySem.W.kia_one PySem.W.kitx_dict I.kIn ⟨o,h1,h2.1⟩ e (λz=>nomatch z) h
 | @dT a kvs ea=>
  cases(show u=Value.ref a from rx);obtain⟨_,_,xs,_,o,es,ep,h1,h2,_⟩:=(show bN X.prog X.w H s.heap a (.dT kvs) from I.hok a _ ea);exact PySem.W.kia_one PySem.W.kitx_dict I.kIn ⟨o,h1,h2.1⟩ e (λz=>nomatch z) h
 | @ins a C dx fs ea cl ha hn htk hm=>
  cases(show u=Value.ref a from rx);obtain⟨mA,O,_⟩:=m8 I.hok ea;obtain⟨od,J,_⟩:=O.look;exact PySem.W.kia_one (PySem.W.kitx_own (cl.get _) cl.hd ha hn htk hm) I.kIn J e (λz=>nomatch z) h
end
structure cw(k:Nat)(A:KR):Prop where
 hd:A.handled=none
 dp:A.depth+3*k+5<recursionLimit
 un:A.units+16*k+200<cLine
theorem cw.mono{j k:Nat}{A:KR}(r:cw k A)(h:j<=k):cw j A:=⟨r.hd,by have:=r.dp;omega,by have:=r.un;omega⟩
theorem cw.deeper{k:Nat}{A:KR}(r:cw (k+1) A)(env:Env):cw k (A.deeper env):=
 ⟨r.hd,by have:=r.dp;show A.depth+1+3*k+5<_;omega,by have:=r.un;show A.units+3+16*k+200<_;omega⟩
theorem cw.in1{k:Nat}{A:KR}(r:cw (k+1) A):cw k A.in1:=
 ⟨r.hd,by have:=r.dp;show A.depth+3*k+5<_;omega,by have:=r.un;show A.units+1+16*k+200<_;omega⟩
theorem vM{A:KR}{C:Addr}{us:KL}{kw:List (Str×Value)}:(A.under (.builtin "type.__call__" ⟨.ref C::us,kw⟩)).depth=A.depth+1:=by
 first | rfl | simp[Around.under,Code.weight,Code.isCreation,Code.isGuard,Code.isCaller,Code.frames,Code.isFrame,guardIds]
theorem we{A:KR}{C:Addr}{us:KL}{kw:List (Str×Value)}:(A.under (.builtin "type.__call__" ⟨.ref C::us,kw⟩)).units=A.units+1:=by
 first | rfl | simp[Around.under,Code.cUnits,Code.frames,Code.isFrame]
theorem cw.make{k:Nat}{A:KR}(r:cw (k+1) A)(C:Addr)(us:KL)(kw:List (Str×Value)):cw k (A.under (.builtin "type.__call__" ⟨.ref C::us,kw⟩)):=
 ⟨r.hd,by have:=r.dp;rw[vM];omega,by have:=r.un;rw[we];omega⟩
theorem cw.depth{k:Nat}{A:KR}(r:cw k A):A.depth<recursionLimit:=by have:=r.dp;omega
theorem cw.units{k:Nat}{A:KR}(r:cw k A):A.units+64<cLine:=by have:=r.un;omega
def pH:TA:=λ_ H Q=>Q [] H
def mf(ta:TE)(tr:TA):TA:=λσ H Q=>ta σ H λx H1=>tr σ H1 λxs H2=>Q (x::xs) H2
section
variable {X:Cx}{e:Expr}{es:KW}{te:TE}{t:TA}{pos:Pos}
theorem ad:PA X [] pH:=λ_ _ _ _ H Q I h=>Calls.spliced_nil ⟨[],H,I,.nil,h⟩
theorem ac(ha:PE X e te)(hr:PA X es t)(hs:autoParam (starEach (e::es) X.env=(false,eval e X.env)::starEach es X.env) zz0._auto_1):PA X (e::es) (mf te t):=by
 intro pos pins s σ H Q I h;rw[hs];show wpAny _ _ (spliced ((false,eval e X.env)::backTo pos (starEach es X.env))) _ _ s;refine Calls.spliced_cons (bU (ha pins s σ H _ I h) λu s1 ⟨x,H1,I1,r1,q1⟩=>?_);exact bU (hr pos pins s1 σ H1 _ I1 q1) λus s2 ⟨xs,H2,I2,r2,q2⟩=>⟨x::xs,H2,I2,.cons r1 r2,q2⟩
def El(t:TA):TE:=λσ H Q=>t σ H λxs H1=>xs.length<=sizeLine/\∀p,H1 p=none->Q (.ref p) (aC H1 p (.tup xs))
def DA(t:TA):TE:=λσ H Q=>t σ H λxs H1=>xs.length<=sizeLine/\∀p,H1 p=none->Q (.ref p) (aC H1 p (.lst xs))
theorem bJ{x1}(h:PA X es t):PE X (.Tuple es x1 pos) (El t):=by
 intro pins s σ H Q I hq;refine wpAny_Tuple_spliced (bU (h pos pins s σ H _ I hq) λus s1 ⟨xs,H1,I1,r,z,q⟩=>⟨by rw[<- r.length];exact z,?_⟩);have hf:H1 s1.heap.objs.size=none:=I1.hok.fresh (J8 _);refine⟨.ref s1.heap.objs.size,aC H1 s1.heap.objs.size (.tup xs),I1.laid (t':=s1.toks) (λb u e=>JL _ e) (J8 _) ?_,rfl,q _ hf⟩;exact⟨z,us,r,⟨_,JR _ rfl,rfl,_,rfl⟩⟩
theorem bE(h:PA X es t):PE X (.List es pos) (DA t):=by
 intro pins s σ H Q I hq;refine wpAny_List_spliced (bU (h pos pins s σ H _ I hq) λus s1 ⟨xs,H1,I1,r,z,q⟩=>⟨by rw[<- r.length];exact z,?_⟩);have hf:H1 s1.heap.objs.size=none:=I1.hok.fresh (J8 _);refine⟨.ref s1.heap.objs.size,aC H1 s1.heap.objs.size (.lst xs),I1.laid (t':=s1.toks) (λb u e=>JL _ e) (J8 _) ?_,rfl,q _ hf⟩;exact⟨z,us,0,r,JR _ rfl⟩
end
abbrev Sp:=List V->Hp->VK->XK->Prop
abbrev ir:=List Env->Hp->Shared->XK->Value->Shared->Prop
structure nn(P:KP)(w:KS)(K:KG)(mg:KN)(base:Heap)(A:KR)(outer:List Env)(s:KJ)(H:Hp):Prop where
 frames:A.frames=some outer
 mod:Mod K mg base
 bs:∀b o,base.get? b=some o->s.heap.get? b=some o/\H b=none
 bsz:base.objs.size<=s.heap.objs.size
 funs:s.heap.FunFrames base outer
 frf:∀b∈lK outer,H b=none
 hok:je P w H s.heap
 bare:AllBare s.gens
def CE(outer:List Env)(P:KP)(w:KS)(H:Hp)(s:KJ)(Q:VK)(u:Value)(s':KJ):Prop:=
 ∃v H',s'.os=s.os/\AllBare s'.gens/\Un (lK outer) [] H H' s.heap s'.heap/\je P w H' s'.heap/\bf v u/\Q v H'
def CR(CX:ir)(outer:List Env)(P:KP)(w:KS)(H:Hp)(s:KJ)(Q:VK)(E:XK)(r:Result)(s':KJ):Prop:=
 match r with
 | .ok (.ret u)=>CE outer P w H s Q u s'
 | .ok _=>False
 | .error e=>CX outer H s E e s'
structure aR(P:KP)(w:KS)(K:KG)(mg:KN)(base:Heap)(CX:ir)(k:Nat)(f:Addr)(fd:KO)(ps:KQ)(sp:Sp):Prop where
 len:∀vs H Q E,sp vs H Q E->vs.length=ps.length
 run:∀(A:KR) (outer:List Env) (s:KJ) (H:Hp) (args:Args) (us:KL) (vs:List V) (Q:VK) (E:XK),cw k A->nn P w K mg base A outer s H->BindsTo s fd args (ps.zip us)->aW vs us->sp vs H Q E ->
  codeAny (model P w) A (.call (.ref f) args) (CR CX outer P w H s Q E) s
theorem aR.mono{P:KP}{w:KS}{K:KG}{mg:KN}{base:Heap}{CX:ir}{j k:Nat}{f:Addr}{fd:KO}{ps:KQ}{sp:Sp}(F:aR P w K mg base CX j f fd ps sp)(h:j<=k) :
  aR P w K mg base CX k f fd ps sp:=⟨F.len,λA outer s H args us vs Q E hr=>F.run A outer s H args us vs Q E (hr.mono h)⟩
theorem nn.make{P:KP}{w:KS}{K:KG}{mg:KN}{base:Heap}{A:KR}{outer:List Env}{s:KJ}{H:Hp}(e:nn P w K mg base A outer s H)(C:Addr)(us:KL)(kw:List (Str×Value)) :
  nn P w K mg base (A.under (.builtin "type.__call__" ⟨.ref C::us,kw⟩)) outer s H:=⟨by first | exact e.frames | (simpa[Around.under,Code.envs,Code.isFrame,pushEnvs]using e.frames),e.mod,e.bs,e.bsz,e.funs,e.frf,e.hok,e.bare⟩
theorem nn.in1{P:KP}{w:KS}{K:KG}{mg:KN}{base:Heap}{A:KR}{outer:List Env}{s:KJ}{H:Hp}(e:nn P w K mg base A outer s H) :
  nn P w K mg base A.in1 outer s H:=⟨e.frames,e.mod,e.bs,e.bsz,e.funs,e.frf,e.hok,e.bare⟩
section
variable {X:Cx}{pins:KH}{σ:St}{H:Hp}{s s':KJ}
theorem Inv.env0(I:Inv X pins σ H s):nn X.prog X.w X.K X.mg X.base X.A X.stack s H:=
 ⟨I.ok.frames,I.ok.mod,I.bs,Kd I.ok.bsz I.sz,I.stack,I.stkFree,I.hok,I.bare⟩
theorem Inv.after{Q:VK}{u:Value}(I:Inv X pins σ H s)(h:CE X.stack X.prog X.w H s Q u s'):EP X pins σ Q u s':=by
 obtain⟨v,H',os,bare,un,hok,r,q⟩:=h;obtain⟨hh,g,d,t,os'⟩:=s';obtain rfl:os'=s.os:=os;exact⟨v,H',I.call (h':=hh) (g':=g) (d':=d) (t':=t) (ch:=[]) un hok bare (λb z=>absurd z (by simp)),r,q⟩
end
def l_(sp:Sp)(dvs:List V)(E:XK)(t:TA):TE:=λσ H Q=>t σ H λvs H1=>sp (vs++dvs) H1 Q E
def qN(C:Addr)(m:Str)(sp:Sp)(dvs:List V)(E:XK)(ta:TE)(t:TA):TE:=λσ H Q=>ta σ H λx H1=>∃a dx fs,x=.ref a/\H1 a=some (.ins C dx fs)/\fs.lookup m=none /\
 t σ H1 λvs H2=>sp (x::(vs++dvs)) H2 Q E
def xH(C:Addr)(sp:Sp)(dvs:List V)(E:XK)(t:TA):TE:=λσ H Q=>t σ H λvs H1=>∀x dx,H1 x=none->H1 dx=none->dx≠x ->
 sp (.ref x::(vs++dvs)) (aC (aC H1 dx (.own x)) x (.ins C dx [])) (λv H2=>v=.non/\Q (.ref x) H2) E
def dF(K:KG)(fd:KO)(ps:KQ)(ds:KL):Prop:=
 ∀(s:KJ) (us:KL),K.In s.heap->(us++ds).length=ps.length->BindsTo s fd ⟨us,[]⟩ (ps.zip (us++ds))
theorem dF.all{K:KG}{fd:KO}{ps:KQ}(h:∀us:List Value,us.length=ps.length->bindArgs fd ⟨us,[]⟩=pure (ps.zip us)):dF K fd ps []:=λs us _ hl=>by
 rw[Kg]at hl ⊢;exact .of_eq (h us hl)
def cJ(CX:ir)(X:Cx)(E:XK):Prop:=∀(pins:KH) (σ:St) (H:Hp) (s:KJ) (e:Value) (s':KJ),Inv X pins σ H s->CX X.stack H s E e s'->X.xe e s'
section
variable {X:Cx}{CX:ir}{k:Nat}{f C:Addr}{fd:KO}{ps:KQ}{sp:Sp}{dvs:List V}{ds:KL}{E:XK}{x m:Str}{p pos apos:Pos}{e o:Expr}{es:KW}{ta:TE}{t:TA}
theorem lD{pins:KH}{σ:St}{H:Hp}{s:KJ}{Q:VK}{us:KL}{vs:List V}(F:aR X.prog X.w X.K X.mg X.base CX k f fd ps sp)(hr:cw k X.A)(hb:dF X.K fd ps ds)(hd:aW dvs ds)(hx:cJ CX X E)
  (I:Inv X pins σ H s) (r:aW vs us) (h:sp (vs++dvs) H Q E):wpAny (model X.prog X.w) X.A (call (.ref f) us) (EP X pins σ Q) X.xe s:=by
 have r2:aW (vs++dvs) (us++ds):=r.append hd;have hl:(us++ds).length=ps.length:=by rw[<- r2.length];exact F.len _ _ _ _ h
 refine wpAny_call (codeAny_mono (F.run X.A X.stack s H ⟨us,[]⟩ (us++ds) (vs++dvs) Q E hr I.env0 (hb s us I.kIn hl) r2 h) λr s' hq=>?_);cases r with
 |error e=>exact hx pins σ H s e s' I hq
 |ok fl=>
  cases fl with
  |ret u=>exact I.after hq
  |next=>exact False.elim hq
  |brk=>exact False.elim hq
  |cont=>exact False.elim hq
theorem wW(F:aR X.prog X.w X.K X.mg X.base CX k f fd ps sp)(hr:cw k X.A)(hg:Gl X x)(hm:X.mg x=some (.ref f))(hk:PySem.W.keepIn X.K (.ref f)=true)(hb:dF X.K fd ps ds)(hd:aW dvs ds)(hx:cJ CX X E)
  (ha:PA X (e::es) t) (hdb:autoParam ((x==("__debug__":Str))=false) zz1._auto_1) (he:autoParam (starEach (e::es) X.env=(false,eval e X.env)::starEach es X.env) zz0._auto_1) (hpl:autoParam ((backTo pos (starEach es X.env)).any (·.1)=false) zz0._auto_1) :
  PE X (.Call (.Name x p) (e::es) [] pos) (l_ sp dvs E t):=by
 intro pins s σ H Q I h;refine wpAny_Call_Name_kw (iP I hg hm ?_ hdb);refine PySem.W.callWith_K (h₀:=X.base) I.ok.mod.kin hk (bU (ha pos pins s σ H _ I h) λus s1 ⟨vs,H1,I1,r,q⟩=>⟨I1.kIn,?_⟩) he hpl;exact lD F hr hb hd hx I1 r q
theorem Co{pl:Sem Bool}(he:PE X o ta)(c:iQ X.K C)(hm:ik X.K C m f)(F:aR X.prog X.w X.K X.mg X.base CX k f fd ps sp)(hr:cw k X.A)(hb:dF X.K fd ps ds)(hd:aW dvs ds)(hx:cJ CX X E)(ha:PA X (e::es) t)
  (hst:autoParam (starEach (e::es) X.env=(false,eval e X.env)::starEach es X.env) zz0._auto_1) (hpl:autoParam ((backTo pos (starEach es X.env)).any (·.1)=false) zz0._auto_1)
  (ht:autoParam (eval (.Call (.Attribute o m apos) (e::es) [] pos) X.env=(do
   let ov <- eval o X.env
   standAt apos.atName
   let (f,first) <- holding [ov] (getMethod ov m pl)
   callWith pos f first (backTo pos (starEach (e::es) X.env)) (backToKw pos (keywordEach [] X.env)))) zz0._auto_1) :
  PE X (.Call (.Attribute o m apos) (e::es) [] pos) (qN C m sp dvs E ta t):=by
 intro pins s σ H Q I h;refine PySem.W.methodCall_KW (pl:=pl) (bU (he pins s σ H _ I h) λu s1 ⟨x,H1,I1,rx,a,dx,fs,ex,ea,l,q⟩=>?_) ht;subst ex;obtain rfl:u=Value.ref a:=rx;refine ft I1 ea c hm l ?_;refine PySem.W.callWith_K (first:=[.ref a]) (h₀:=X.base) I.ok.mod.kin hm.kp (bU (ha pos pins s1 σ H1 _ I1 q) λus s2 ⟨vs,H2,I2,r,q2⟩=>⟨I2.kIn,?_⟩) hst hpl;exact lD (us:=.ref a::us) (vs:=.ref a::vs) F hr hb hd hx I2 (.cons rfl r) q2
theorem BJ{pl:Sem Bool}(he:PE X o ta)(c:iQ X.K C)(hm:ik X.K C m f)(F:aR X.prog X.w X.K X.mg X.base CX k f fd ps sp)(hr:cw k X.A)(hb:dF X.K fd ps ds)(hd:aW dvs ds)(hx:cJ CX X E)
  (ht:autoParam (eval (.Call (.Attribute o m apos) [] [] pos) X.env=(do
   let ov <- eval o X.env
   standAt apos.atName
   let (f,first) <- holding [ov] (getMethod ov m pl)
   callWith pos f first (backTo pos (starEach [] X.env)) (backToKw pos (keywordEach [] X.env)))) zz0._auto_1) :
  PE X (.Call (.Attribute o m apos) [] [] pos) (qN C m sp dvs E ta pH):=by
 intro pins s σ H Q I h;refine PySem.W.methodCall_KW (pl:=pl) (bU (he pins s σ H _ I h) λu s1 ⟨x,H1,I1,rx,a,dx,fs,ex,ea,l,q⟩=>?_) ht;subst ex;obtain rfl:u=Value.ref a:=rx;refine ft I1 ea c hm l ?_;exact PySem.W.callWith_K0 (first:=[.ref a]) I1.kIn hm.kp (lD (us:=[.ref a]) (vs:=[.ref a]) F hr hb hd hx I1 (.cons rfl .nil) q)
structure Mk(K:KG)(C f:Addr):Prop where
 makes:PySem.W.makesIn K C=true
 init:PySem.W.findIn K (.ref C) "__init__"=some (some (.ref f))
 fn:PySem.W.isFn K (.ref f)=true
 kp:PySem.W.keepIn K (.ref C)=true
theorem AO{pins:KH}{σ:St}{H:Hp}{s:KJ}{Q:VK}{us:KL}{vs:List V}(M:Mk X.K C f)(F:aR X.prog X.w X.K X.mg X.base CX k f fd ps sp)(hr:cw (k+1) X.A)(hb:dF X.K fd ps ds)(hd:aW dvs ds)
  (hx:cJ CX X E) (I:Inv X pins σ H s) (r:aW vs us)
  (h:∀x dx,H x=none->H dx=none->dx≠x->sp (.ref x::(vs++dvs)) (aC (aC H dx (.own x)) x (.ins C dx [])) (λv H2=>v=.non/\Q (.ref x) H2) E) :
  wpAny (model X.prog X.w) X.A (call (.ref C) us) (EP X pins σ Q) X.xe s:=by
 have hq:=h (s.heap.objs.size+1) s.heap.objs.size (I.hok.fresh (Nat.le_succ _)) (I.hok.fresh (J8 _)) (J4 (Kf _));have I2:=Inv.made (C:=C) I;have r2:aW (V.ref (s.heap.objs.size+1)::(vs++dvs)) (Value.ref (s.heap.objs.size+1)::(us++ds)):=.cons rfl (r.append hd);have hl:(Value.ref (s.heap.objs.size+1)::us++ds).length=ps.length:=by
  have e:=r2.length;rw[F.len _ _ _ _ hq]at e;exact e.symm
 refine wpAny_call (By (f:=f) I.kIn M.makes M.init (beq_iff_eq.mp M.fn) (codeAny_mono (F.run _ X.stack _ _ ⟨Value.ref (s.heap.objs.size+1)::us,[]⟩ (Value.ref (s.heap.objs.size+1)::(us++ds)) _ _ E (hr.make C us [])
  (I2.env0.make C us []) (hb _ (Value.ref (s.heap.objs.size+1)::us) I2.kIn hl) r2 hq) λr s' hq'=>?_))
 cases r with
 |error e=>exact hx pins σ _ _ e s' I2 hq'
 |ok fl=>
  cases fl with
  |ret u=>
   obtain⟨v,H',I3,rv,ev,q3⟩:=I2.after hq';subst ev;exact⟨rv,⟨V.ref (s.heap.objs.size+1),H',I3,rfl,q3⟩⟩
  |next=>exact False.elim hq'
  |brk=>exact False.elim hq'
  |cont=>exact False.elim hq'
theorem Cp(M:Mk X.K C f)(F:aR X.prog X.w X.K X.mg X.base CX k f fd ps sp)(hr:cw (k+1) X.A)(hg:Gl X x)(hm:X.mg x=some (.ref C))(hb:dF X.K fd ps ds)(hd:aW dvs ds)(hx:cJ CX X E)
  (ha:PA X (e::es) t) (hdb:autoParam ((x==("__debug__":Str))=false) zz1._auto_1) (he:autoParam (starEach (e::es) X.env=(false,eval e X.env)::starEach es X.env) zz0._auto_1) (hpl:autoParam ((backTo pos (starEach es X.env)).any (·.1)=false) zz0._auto_1) :
  PE X (.Call (.Name x p) (e::es) [] pos) (xH C sp dvs E t):=by
 intro pins s σ H Q I h;refine wpAny_Call_Name_kw (iP I hg hm ?_ hdb);refine PySem.W.callWith_K (h₀:=X.base) I.ok.mod.kin M.kp (bU (ha pos pins s σ H _ I h) λus s1 ⟨vs,H1,I1,r,q⟩=>⟨I1.kIn,?_⟩) he hpl;exact AO M F hr hb hd hx I1 r q
end
def PK(X:Cx)(kws:List Keyword)(t:TA):Prop:=
 ∀(pos:Pos) (pins:KH) (s:KJ) (σ:St) (H:Hp) (Q:List V->Hp->Prop),Inv X pins σ H s->t σ H Q->wpAny (model X.prog X.w) X.A (evalAll ((backToKw pos (keywordEach kws X.env)).map (·.2))) (AP X pins σ Q) X.xe s
section
variable {X:Cx}{CX:ir}{k:Nat}{f C:Addr}{fd:KO}{ps ks:KQ}{sp:Sp}{E:XK}{x m:Str}{p pos apos kpos:Pos}{e o:Expr}{es:KW}{kws:List Keyword}{te ta:TE}{t tk:TA}{nm:Option Str}
theorem EY:PK X [] pH:=λ_ _ _ _ H Q I h=>wpAny_evalAll_nil ⟨[],H,I,.nil,h⟩
theorem Dr(ha:PE X e te)(hr:PK X kws t):PK X (⟨nm,e,kpos⟩::kws) (mf te t):=by
 intro pos pins s σ H Q I h;show wpAny _ _ (evalAll ((do let v <- eval e X.env;standAt pos;pure v)::(backToKw pos (keywordEach kws X.env)).map (·.2))) _ _ s;refine wpAny_evalAll_cons (wpAny_bind (bU (ha pins s σ H _ I h) λu s1 ⟨x,H1,I1,r1,q1⟩=>wpAny_bind (wpAny_standAt (wpAny_pure ?_))));exact bU (hr pos pins s1 σ H1 _ I1 q1) λus s2 ⟨xs,H2,I2,r2,q2⟩=>⟨x::xs,H2,I2,.cons r1 r2,q2⟩
structure GN(K:KG)(fd:KO)(ps ks:KQ)(g:List Value->List Value->List Value)(gV:List V->List V->List V):Prop where
 to:∀(s:KJ) (us ws:KL),K.In s.heap->(g us ws).length=ps.length->BindsTo s fd ⟨us,ks.zip ws⟩ (ps.zip (g us ws))
 rel:∀{vs:List V} {us:KL} {zs:List V} {ws:KL},aW vs us->aW zs ws->aW (gV vs zs) (g us ws)
variable {g:List Value->List Value->List Value}{gV:List V->List V->List V}
end
structure aB(N P:KQ)(sc:Scope):Prop where
 kind:sc.kind=.function
 co:sc.isCoroutine=false
 gen:sc.isGenerator=false
 nd:N.Nodup
 pre:N.take P.length=P
 par:∀x∈P,sc.names.lookup x=some .local\/sc.names.lookup x=some .cell
 nofree:∀y∈sc.names,y.2≠.free
theorem p8{kindOf:Str->Option NameKind}{x:Str}:∀{binds:List (Str×Value)} {m:KN},(∀v,(x,v)∉binds)->bindL kindOf binds m x=m x
 | [],_,_=>rfl
 | (n,v)::r,m,h=>by
  unfold bindL;rw[p8 λw hw=>h w (J1 _ hw)]
  split
  ·have:x≠n:=by rintro rfl;exact h v List.mem_cons_self
   simp[this]
  ·rfl
theorem qm{kindOf:Str->Option NameKind}{x:Str}:∀{binds:List (Str×Value)} {m:KN},(∀v,(x,v)∉binds)->bindC kindOf binds m x=m x
 | [],_,_=>rfl
 | (n,v)::r,m,h=>by
  unfold bindC;rw[qm λw hw=>h w (J1 _ hw)]
  split
  ·rfl
  ·have:x≠n:=by rintro rfl;exact h v List.mem_cons_self
   simp[this]
theorem qD{kindOf:Str->Option NameKind}{x:Str}{v:Value}:∀{P:KQ} {vs:KL} {i:Nat} {m:KN},P.Nodup->P[i]?=some x->vs[i]?=some v->kindOf x=some .local ->
  bindL kindOf (P.zip vs) m x=some v
 | [],_,_,_,_,h,_,_=>by simp at h
 |_::_,[],_,_,_,_,h,_=>by simp at h
 |p::P,w::vs,0,m,nd,h1,h2,hk=>by
  simp at h1 h2;subst h1;subst h2
  show bindL kindOf ((p,w)::P.zip vs) m p=_;unfold bindL;rw[p8 λv hv=>(List.nodup_cons.mp nd).1 (List.of_mem_zip hv).1,if_pos hk];simp
 |p::P,w::vs,i+1,m,nd,h1,h2,hk=>by
  show bindL kindOf ((p,w)::P.zip vs) m x=_;unfold bindL;exact qD (i:=i) (List.nodup_cons.mp nd).2 (by simpa using h1) (by simpa using h2) hk
theorem qF{kindOf:Str->Option NameKind}{x:Str}{v:Value}:∀{P:KQ} {vs:KL} {i:Nat} {m:KN},P.Nodup->P[i]?=some x->vs[i]?=some v->kindOf x≠some .local ->
  bindC kindOf (P.zip vs) m x=some v
 | [],_,_,_,_,h,_,_=>by simp at h
 |_::_,[],_,_,_,_,h,_=>by simp at h
 |p::P,w::vs,0,m,nd,h1,h2,hk=>by
  simp at h1 h2;subst h1;subst h2
  show bindC kindOf ((p,w)::P.zip vs) m p=_;unfold bindC;rw[qm λv hv=>(List.nodup_cons.mp nd).1 (List.of_mem_zip hv).1,if_neg hk];simp
 |p::P,w::vs,i+1,m,nd,h1,h2,hk=>by
  show bindC kindOf ((p,w)::P.zip vs) m x=_;unfold bindC;exact qF (i:=i) (List.nodup_cons.mp nd).2 (by simpa using h1) (by simpa using h2) hk
def start(N:KQ)(vs:List V):St:=vs.map some++List.replicate (N.length-vs.length) none
def eZ(CX:ir)(P:KP)(w:KS)(K:KG)(mg:KN)(base:Heap)(N:KQ)(qual:Str)(scope:Scope)(f:Addr)(cd:Value)(A:KR)(outer:List Env)(s:KJ)(H:Hp)(E:XK):Cx where
 prog:=P
 w:=w
 K:=K
 mg:=mg
 base:=base
 A:=A.deeper (envOfC qual scope s.heap.objs.size f cd)
 N:=N
 s₀:=s
 H₀:=H
 env:=envOfC qual scope s.heap.objs.size f cd
 outer:=outer
 stack:=envOfC qual scope s.heap.objs.size f cd::outer
 ex:=[]
 calm:=true
 fn:=λ_=>true
 pn:=[]
 xe:=λe s'=>wpAny (model P w) (A.deeper (envOfC qual scope s.heap.objs.size f cd)) (leaving (envOfC qual scope s.heap.objs.size f cd) e) (λ_ s''=>CX outer H s E e s'') (λe' s''=>CX outer H s E e' s'') s'
theorem t5{sc:Scope}{n:Nat}{x:Str}(h:sc.names.lookup x=some .cell):∃c,(cellsFrom n sc.names []).lookup x=some c:=by
 have q:=PySem.W.cellsFrom_some sc.names n [] (.inl h);exact Option.isSome_iff_exists.mp q
theorem yI{CX:ir}{P:KP}{w:KS}{K:KG}{mg:KN}{base:Heap}{N ps:KQ}{qual:Str}{scope:Scope}{f:Addr}{cd:Value}{A:KR}{outer:List Env}{s s1:KJ}{H:Hp}{E:XK}{us:KL}{vs:List V}
  (S:aB N ps scope) (hd:A.handled=none) (e0:nn P w K mg base A outer s H) (hl:vs.length=ps.length) (r:aW vs us)
  (x:InCallC s s.heap.objs.size (bindL (envOfC qual scope s.heap.objs.size f cd).kindOf (ps.zip us) λ_=>none) (cellsFrom (s.heap.objs.size+1) scope.names []) (bindC (envOfC qual scope s.heap.objs.size f cd).kindOf (ps.zip us) λ_=>none) s1) :
  Inv (eZ CX P w K mg base N qual scope f cd A outer s H E) [] (start N vs) H s1:=by
 have hpl:ps.length<=N.length:=by have:=congrArg List.length S.pre;rw[Kk]at this;omega
 obtain⟨h1,tk,rfl,hk⟩:=x.done;have noA:∀b:Addr,b∉(eZ CX P w K mg base N qual scope f cd A outer s H E).ex:=λb z=>absurd (show b∈([]:List Addr) from z) (by simp);refine⟨⟨e0.mod,S.kind,rfl,rfl,J8 _,λy z c h1 h2=>?_,λy hy=>?_,λy c _ h=>?_,λ_=>hd,Around.frames_deeper e0.frames,.inr ⟨rfl,rfl⟩,λb z=>absurd z (noA b),e0.bs,e0.bsz,λb _ _=>noA b,λb z=>absurd z (noA b),e0.funs,e0.frf⟩,
  rfl,e0.bare,Un.kept hk,⟨_,x.toInCall.ns,λi y v h1 h2 h3=>?_⟩,λy c h=>⟨_,x.cell y c h⟩,e0.hok.fresh (J8 _),λy c h=>?_,λp hp=>absurd (show p∈([]:List (Addr×Obj)) from hp) (by simp),e0.hok.kept hk,?_⟩
 ·exact name_of_addr x.apart (PySem.mem_of_lookup h1) (PySem.mem_of_lookup h2)
 ·have hy:scope.names.lookup y=some .cell\/scope.names.lookup y=some .free:=hy
  rcases hy with hy | hy
  ·exact t5 hy
  ·exact absurd rfl (S.nofree _ (PySem.mem_of_lookup hy))
 ·exact Nat.le_of_lt (x.above y c (PySem.mem_of_lookup h))
 ·have hi:i<vs.length:=by
   unfold start at h2
   by_cases hi:i<vs.length
   ·exact hi
   ·rw[J5 (by simpa using hi)]at h2
    rw[List.getElem?_replicate]at h2
    split at h2<;>cases h2
  have ha:vs[i]?=some v:=by
   unfold start at h2;rw[J6 (by simpa using hi),JO]at h2;cases e:vs[i]? with
   |none=>rw[e]at h2;cases h2
   |some a=>rw[e]at h2;cases h2;rfl
  obtain⟨u,hu,rv⟩:=r.get ha;have hp:ps[i]?=some y:=by
   rw[<- S.pre,List.getElem?_take_of_lt ⋯];exact h1
  have ndP:ps.Nodup:=by rw[<- S.pre];exact S.nd.sublist (List.take_sublist _ _)
  refine⟨u,rv,?_⟩;rcases S.par y (JP hp) with k | k
  ·exact .inl ⟨k,qD ndP hp hu k⟩
  ·obtain⟨c,e⟩:=t5 (n:=s.heap.objs.size+1) k
   refine .inr ⟨.inl k,c,e,?_⟩;have q:=x.cell y c e;rw[qF ndP hp hu (by show scope.names.lookup y≠_;rw[k];decide)]at q;exact q
 ·exact e0.hok.fresh (Nat.le_of_lt (x.above y c (PySem.mem_of_lookup h)))
 ·unfold start
  show _=N.length;rw[J7,JM,List.length_replicate];omega
theorem zZ{CX:ir}{P:KP}{w:KS}{K:KG}{mg:KN}{base:Heap}{k:Nat}{f:Addr}{name qual:Str}{params:Arguments}{body:List Stmt}{scope:Scope}{dV kV doc pm cdv ct oc:Value}{an od:KU}
  {osl:Array (Option Value)} {N ps:KQ} {sp:Sp} (lk:K.lookup f=some ⟨oc,od,.func (PySem.W.fnOf name qual params body scope dV kV doc pm an cdv ct),osl⟩) (hcd:PySem.W.codeIn K cdv qual=true) (S:aB N ps scope)
  (len:∀vs H Q E,sp vs H Q E->vs.length=ps.length)
  (hbody:∀(A:KR) (outer:List Env) (s:KJ) (H:Hp) (vs:List V) (Q:VK) (E:XK),cw k (A.deeper (envOfC qual scope s.heap.objs.size f cdv))->sp vs H Q E ->
   ∃t,ud (eZ CX P w K mg base N qual scope f cdv A outer s H E) body t/\t {nx:=λ_ H'=>Q .non H',rt:=Q} (start N vs) H) :
  aR P w K mg base CX (k+1) f (PySem.W.fnOf name qual params body scope dV kV doc pm an cdv ct) ps sp:=by
 refine⟨len,λA outer s H args us vs Q E hr e0 hb r hsp=>?_⟩;have hl:=len _ _ _ _ hsp;have KX:K.In s.heap:=e0.mod.kin.keeps λb o e=>(e0.bs b o e).1;have lim:s.heap.NoLimit:=e0.mod.nolimit.keeps λb o e=>(e0.bs b o e).1;have hkind:∀y∈ps.zip us,scope.names.lookup y.1=some .local\/(scope.names.lookup y.1=some .cell/\((cellsFrom (s.heap.objs.size+1) scope.names []).lookup y.1).isSome=true):=λ⟨n,v⟩ hy=>by
  rcases S.par n (List.of_mem_zip hy).1 with q | q
  ·exact .inl q
  ·exact .inr ⟨q,PySem.W.cellsFrom_some _ _ _ (.inl q)⟩
 refine codeAny_call_function hr.depth (KX _ _ lk) rfl S.co S.gen rfl (PySem.W.codeRec_of KX hcd) (hb _ _ _ _ ?_);refine wpAny_newFunctionEnv_cells S.kind hkind λenv he s1 x=>?_;subst he;refine⟨lim.keeps x.toInCall.keep,codeAny_func ?_⟩;obtain⟨t,ht,hq⟩:=hbody A outer s H vs Q E (hr.deeper _) hsp;have I:Inv (eZ CX P w K mg base N qual scope f cdv A outer s H E) [] (start N vs) H s1:=yI S hr.hd e0 hl r x;refine wpAny_mono (ht [] s1 (start N vs) H _ I hq) (λfl s' hs=>?_) λe s' hs=>hs;have fin:∀{σ':St} {H':Hp} {v:V} {u:Value},Inv (eZ CX P w K mg base N qual scope f cdv A outer s H E) [] σ' H' s'->bf v u->Q v H'->CE outer P w H s Q u s':=
  fun{σ' H' v u} J rv q=>⟨v,H',J.os,J.bare,J.base,J.hok,rv,q⟩
 cases fl with
 |ret u=>
  obtain⟨v,σ',H',J,rv,q⟩:=hs;exact fin J rv q
 |next=>
  obtain⟨σ',H',J,q⟩:=hs;exact fin (v:=V.non) (u:=Value.none) J rfl q
 |brk=>
  obtain⟨_,_,_,q⟩:=hs;exact False.elim q
 |cont=>
  obtain⟨_,_,_,q⟩:=hs;exact False.elim q
section
variable {X:Cx}{x:Str}{p pos:Pos}{e:Expr}{es:KW}{t:TA}{id T:String}{r:List V->Hp->VK->Prop}
def Gr(r:List V->Hp->VK->Prop)(t:TA):TE:=λσ H Q=>t σ H λvs H1=>r vs H1 Q
theorem aP(hc:g8 X (.builtin id) r)(hg:Gl X x)(hm:X.mg x=none)(hv:bootBuiltins x=some (.builtin id))(ha:PA X (e::es) t)(hn:autoParam (x≠"__name__") zz1._auto_1)(hdb:autoParam ((x==("__debug__":Str))=false) zz1._auto_1)
  (he:autoParam (starEach (e::es) X.env=(false,eval e X.env)::starEach es X.env) zz0._auto_1) (hpl:autoParam ((backTo pos (starEach es X.env)).any (·.1)=false) zz0._auto_1):PE X (.Call (.Name x p) (e::es) [] pos) (Gr r t):=by
 intro pins s σ H Q I h;refine wpAny_Call_Name_kw (fg I hg hm hv ?_ hn hdb);exact PyProof.Rows.callWith_builtin1 (bU (ha pos pins s σ H _ I h) λus s1 ⟨vs,H1,I1,r1,q1⟩=>hc pins s1 σ H1 vs us Q I1 r1 q1) he hpl
theorem c8(hc:g8 X (.type T) r)(hg:Gl X x)(hm:X.mg x=none)(hv:bootBuiltins x=some (.type T))(ha:PA X (e::es) t)(hn:autoParam (x≠"__name__") zz1._auto_1)(hdb:autoParam ((x==("__debug__":Str))=false) zz1._auto_1)
  (he:autoParam (starEach (e::es) X.env=(false,eval e X.env)::starEach es X.env) zz0._auto_1) (hpl:autoParam ((backTo pos (starEach es X.env)).any (·.1)=false) zz0._auto_1):PE X (.Call (.Name x p) (e::es) [] pos) (Gr r t):=by
 intro pins s σ H Q I h;refine wpAny_Call_Name_kw (fg I hg hm hv ?_ hn hdb);exact PyProof.Rows.callWith_type1 (bU (ha pos pins s σ H _ I h) λus s1 ⟨vs,H1,I1,r1,q1⟩=>hc pins s1 σ H1 vs us Q I1 r1 q1) he hpl
end
end L2
namespace HT
open PySem PyProof.Rows
section
variable {prog:KP}{w:KS}{A:KR}{E:KF}{s:KJ}
def sIx(n d:Nat):Option Int->Nat
 |none=>d
 |some v=>if v<0 then(v+(n:Int)).toNat else min v.toNat n
theorem sIx_none(n d:Nat):sIx n d none=d:=rfl
theorem sIx_nat(n d k:Nat):sIx n d (some (k:Int))=min k n:=by
 show(if(k:Int)<0 then((k:Int)+(n:Int)).toNat else min (k:Int).toNat n)=min k n;rw[if_neg ⋯,JU]
theorem sIx_le(n d:Nat)(hd:d<=n)(o:Option Int):sIx n d o<=n:=by
 cases o with
 |none=>exact hd
 |some v=>
  show(if v<0 then(v+(n:Int)).toNat else min v.toNat n)<=n
  by_cases hv:v<0
  ·rw[if_pos hv];omega
  ·rw[if_neg hv];exact Nat.min_le_right _ _
end
end HT
namespace L2
open PySem PySem.Spec PyProof.Rows
abbrev TO:=St->Hp->(Option Int->Hp->Prop)->Prop
def PO(X:Cx)(e:Option Expr)(t:TO):Prop:=
 ∀(pins:KH) (s:KJ) (σ:St) (H:Hp) (Q:Option Int->Hp->Prop),Inv X pins σ H s->t σ H Q ->
  wpAny (model X.prog X.w) X.A (evalPart e X.env) (λu s'=>∃o H',Inv X pins σ H' s'/\IsPart u o/\Q o H') X.xe s
def sd:TO:=λ_ H Q=>Q none H
def zS(t:TE):TO:=λσ H Q=>t σ H λx H1=>∃i,x=.int i/\Q (some i) H1
section
variable {X:Cx}{e:Expr}{te:TE}{lo hi:Option Expr}{tl th:TO}{pos p2:Pos}
theorem fF:PO X none sd:=by
 intro pins s σ H Q I h;rw[evalPart_none];exact wpAny_pure ⟨none,H,I,.none,h⟩
theorem dr(h:PE X e te):PO X (some e) (zS te):=by
 intro pins s σ H Q I hw;rw[evalPart_some];refine bU (h pins s σ H _ I hw) λu s1 ⟨x,H1,I1,r1,q1⟩=>?_;obtain⟨i,rfl,q⟩:=q1;obtain⟨t,rfl⟩:=r1;exact⟨some i,H1,I1,.int i t,q⟩
def GW(X:Cx)(r:V->Option Int->Option Int->Hp->VK->Prop):Prop:=
 ∀(pins:KH) (s:KJ) (σ:St) (H:Hp) (x:V) (v vl vu:Value) (lo hi:Option Int) (sl:Addr) (Q:VK),Inv X pins σ H s->bf x v->s.heap.IsSliceOf sl vl vu .none->IsPart vl lo->IsPart vu hi->r x lo hi H Q ->
  ∃T id,typeLookup (.type T) "__getitem__"=pure (some (.builtin id))/\s.TypeIs v T/\wpAny (model X.prog X.w) X.A (getItem v (.ref sl)) (EP X pins σ Q) X.xe s
def GP(r:V->Option Int->Option Int->Hp->VK->Prop)(te:TE)(tl th:TO):TE:=λσ H Q=>te σ H λx H1=>tl σ H1 λl H2=>th σ H2 λu H3=>r x l u H3 Q
theorem dk{r:V->Option Int->Option Int->Hp->VK->Prop}(hr:GW X r)(he:PE X e te)(hl:PO X lo tl)(hu:PO X hi th):PE X (.Subscript e (.Slice lo hi none p2) pos) (GP r te tl th):=by
 intro pins s σ H Q I h;refine Subscript_ (bU (he pins s σ H _ I h) λv s1 ⟨x,H1,I1,r1,q1⟩=>?_);refine wpAny_Slice (bU (hl pins s1 σ H1 _ I1 q1) λvl s2 ⟨l,H2,I2,pl,q2⟩=>bU (hu pins s2 σ H2 _ I2 q2) λvu s3 ⟨u,H3,I3,pu,q3⟩=>?_);rw[evalPart_none];refine wpAny_pure ?_;have I4:Inv X pins σ H3 {s3 with heap:=s3.heap.push {cls:=.type "slice",data:=.fields #[vl,vu,.none]} }:=I3.kept (t':=s3.toks) λb ob q=>JL _ q;obtain⟨T,id,hT,ht,hg⟩:=hr pins {s3 with heap:=s3.heap.push {cls:=.type "slice",data:=.fields #[vl,vu,.none]} } σ H3 x v vl vu l u s3.heap.objs.size Q I4 r1 (Heap.IsSliceOf.new ..) pl pu q3;show wpAny (model X.prog X.w) X.A (subscriptTail e (.Slice lo hi none p2) v (.ref s3.heap.objs.size)) (EP X pins σ Q) X.xe {s3 with heap:=s3.heap.push {cls:=.type "slice",data:=.fields #[vl,vu,.none]} };exact tail_any (ops:=[.ref s3.heap.objs.size,v]) ht hT hg (by with_unfolding_all rfl)
def kc(xs:List V)(lo hi:Option Int):List V:=(xs.drop (HT.sIx xs.length 0 lo)).take (HT.sIx xs.length xs.length hi-HT.sIx xs.length 0 lo)
theorem vd(xs:List V)(lo hi:Option Int):(kc xs lo hi).length<=xs.length:=by
 unfold kc;rw[Kk,Kl];omega
end
def Fh(n:Nat)(i:Int):Option Nat:=if 0<=i then(if i<n then some i.toNat else none) else if -(n:Int)<=i then some (i+n).toNat else none
def vq{α:Type}(xs:List α)(i:Int):Option α:=(Fh xs.length i).bind λj=>xs[j]?
theorem Cg{n:Nat}{i:Int}{j:Nat}(h:Fh n i=some j):seqIndex? i n=some j/\j<n/\-(n:Int)<=i/\i<n:=by
 unfold Fh at h
 by_cases h0:0<=i
 ·rw[if_pos h0]at h
  by_cases h1:i<n
  ·rw[if_pos h1]at h
   have e:i.toNat=j:=Option.some.inj h;exact⟨by rw[seqIndex_of h0 h1,e],⋯,⋯,h1⟩
  ·rw[if_neg h1]at h;cases h
 ·rw[if_neg h0]at h
  by_cases h1:-(n:Int)<=i
  ·rw[if_pos h1]at h
   have e:(i+n).toNat=j:=Option.some.inj h;exact⟨by rw[seqIndex_neg ⋯ h1,e],⋯,h1,⋯⟩
  ·rw[if_neg h1]at h;cases h
theorem tG{α:Type}{xs:List α}{i:Int}{v:α}(h:vq xs i=some v):∃j,seqIndex? i xs.length=some j/\xs[j]?=some v/\j<xs.length/\-(xs.length:Int)<=i/\i<xs.length:=by
 unfold vq at h;cases e:Fh xs.length i with
 |none=>rw[e]at h;cases h
 |some j=>
  rw[e]at h;obtain⟨h1,h2,h3,h4⟩:=Cg e;exact⟨j,h1,h,h2,h3,h4⟩
theorem ci{α:Type}{xs:List α}{j:Nat}{v:α}(h:xs[j]?=some v):vq xs (j:Int)=some v:=by
 have hj:j<xs.length:=(JK.mp h).1;have e:Fh xs.length (j:Int)=some j:=by
  unfold Fh;rw[if_pos ⋯,if_pos ⋯];simp
 unfold vq;rw[e];exact h
def Dd(b:Expr):Prop:=∀o i,subscripted b false o i=operate [o,i] (getItem o i)
def Ez(X:Cx)(r:R2):Prop:=
 ∀(value slice:Expr) (pins:KH) (s:KJ) (σ:St) (H:Hp) (x y:V) (v u:Value) (Q:VK),Inv X pins σ H s->bf x v->bf y u->r x y H Q ->
  subscripted slice false v u=operate [v,u] (getItem v u)->wpAny (model X.prog X.w) X.A (subscriptTail value slice v u) (EP X pins σ Q) X.xe s
def GA(X:Cx)(id:String)(r:V->List V->Hp->VK->Prop):Prop:=
 ∀(pins:KH) (s:KJ) (σ:St) (H:Hp) (x:V) (xs:List V) (v:Value) (us:KL) (Q:VK),Inv X pins σ H s->bf x v->aW xs us->r x xs H Q ->
  wpAny (model X.prog X.w) X.A (call (.builtin id) (v::us)) (EP X pins σ Q) X.xe s
section
variable {X:Cx}{a b:Expr}{ta tb:TE}{pos:Pos}
theorem cR{r:R2}(hr:Ez X r)(ha:PE X a ta)(hb:PE X b tb)(hs:Dd b):PE X (.Subscript a b pos) (Fe r ta tb):=by
 intro pins s σ H Q I h;exact Subscript_ (EZ ha hb I h λv u s2 x y H2 I2 rx ry q=>hr a b pins s2 σ H2 x y v u Q I2 rx ry q (hs _ _))
def zj(K:KG):R2:=λx y H Q=>∃p xs i v,x=.ref p/\y=.int i/\aQ K H p xs/\vq xs i=some v/\Q v H
def Bl(K:KG):R2:=λx y H Q=>∃p xs i v,x=.ref p/\y=.int i/\jv K H p xs/\vq xs i=some v/\Q v H
def D7:R2:=λx y H Q=>∃z i c,x=.str z/\y=.int i/\z.length<=sizeLine/\vq z.cps.toList i=some c/\Q (.str ⟨#[c]⟩) H
theorem sj:Ez X (zj X.K):=by
 intro value slice pins s σ H x y v u Q I rx ry h hs;obtain⟨p,xs,i,z,rfl,rfl,hq,he,q⟩:=h;cases rx;obtain⟨t,rfl⟩:=ry;obtain⟨its,r,pl,hz⟩:=I.list hq;obtain⟨j,h1,h2,h3,h4,h5⟩:=tG he;obtain⟨w,ew,rw'⟩:=r.get h2;have hl:=r.length;have hn:=nq;have fin:EP X pins σ Q w s:=⟨z,H,I,rw',q⟩
 by_cases h0:0<=i
 ·have hj:i.toNat=j:=by
   rw[seqIndex_of h0 h5]at h1;exact Option.some.inj h1
  exact item_listR pl.isList h0 ⋯ (by rw[hj];simpa using ew) fin hs
 ·have hj:(i+(its.toArray.size:Int)).toNat=j:=by
   rw[seqIndex_neg ⋯ h4]at h1;rw[JS,<- hl];exact Option.some.inj h1
  exact subscriptTail_builtinR (x:=w) pl.isList.typeIs slot_list_getitem.lookup
   (wpAny_getItem_list_neg (Q:=λr s'=>r=w/\EP X pins σ Q r s') pl.isList ⋯ (by rw[JS]<;>omega) ⋯ (by rw[hj];simpa using ew) ⟨rfl,fin⟩) hs
theorem Ep:Ez X (Bl X.K):=by
 intro value slice pins s σ H x y v u Q I rx ry h hs;obtain⟨p,xs,i,z,rfl,rfl,hq,he,q⟩:=h;cases rx;obtain⟨t,rfl⟩:=ry;obtain⟨its,r,pl,hz⟩:=I.tuple hq;obtain⟨j,h1,h2,h3,h4,h5⟩:=tG he;obtain⟨w,ew,rw'⟩:=r.get h2;have hl:=r.length;have hn:=nq;have fin:EP X pins σ Q w s:=⟨z,H,I,rw',q⟩;exact subscriptTail_builtinR (x:=w) pl.typeIs slot_tuple_getitem.lookup
  (getItem_tuple (j:=j) (Q:=λr s'=>r=w/\EP X pins σ Q r s') pl ⋯ ⋯ (by rw[JS,<- hl];exact h1) (by simpa using ew) ⟨rfl,fin⟩) hs
theorem tK:Ez X D7:=by
 intro value slice pins s σ H x y v u Q I rx ry h hs;obtain⟨z,i,c,rfl,rfl,hz,he,q⟩:=h;obtain⟨t,rfl⟩:=rx;obtain⟨t',rfl⟩:=ry;obtain⟨j,h1,h2,h3,h4,h5⟩:=tG he;have hl:z.cps.toList.length=z.length:=by simp[Str.length]
 rw[hl]at h1 h4 h5;have hn:=nq;exact tail_any (typeIs_str s z t) slot_str_getitem.lookup (getItem_str (c:=c) (by
  have e1:decide (i < -(2 ^ 63:Int))=false:=decide_eq_false ⋯;have e2:decide (i≥2 ^ 63)=false:=decide_eq_false ⋯;rw[e1,e2,Bool.or_false]) (by rw[h1];simpa using h2) ⟨.str ⟨#[c]⟩,H,I.tok _,⟨_,rfl⟩,q⟩) hs
theorem rJ(lo hi:Option Int)(n:Nat):(sliceBounds lo hi none n).1=((HT.sIx n 0 lo:Nat):Int)/\(sliceBounds lo hi none n).2.1=((HT.sIx n n hi:Nat):Int)/\(sliceBounds lo hi none n).2.2=1:=by
 refine⟨?_,?_,rfl⟩
 ·cases lo with
  |none=>simp[sliceBounds,HT.sIx]
  |some i=>
   simp only[sliceBounds,HT.sIx,Option.getD_none,show(1:Int)>0 by decide,if_true]
   by_cases h:i<0
   ·simp only[h,if_true]<;>omega
   ·simp only[h,if_false]<;>omega
 ·cases hi with
  |none=>simp[sliceBounds,HT.sIx]
  |some i=>
   simp only[sliceBounds,HT.sIx,Option.getD_none,show(1:Int)>0 by decide,if_true]
   by_cases h:i<0
   ·simp only[h,if_true]<;>omega
   ·simp only[h,if_false]<;>omega
theorem oY(its:KL)(lo hi:Option Int):slicePick its.toArray lo hi none=((its.drop (HT.sIx its.length 0 lo)).take (HT.sIx its.length its.length hi-HT.sIx its.length 0 lo)).toArray:=by
 obtain⟨h1,h2,h3⟩:=rJ lo hi its.toArray.size;unfold slicePick;rw[h1,h2,h3];simp only[sliceRange_one,pick_run,JS]<;>rfl
def ET(K:KG):V->Option Int->Option Int->Hp->VK->Prop:=λx lo hi H Q=>∃a xs,x=.ref a/\aQ K H a xs/\∀p,H p=none->Q (.ref p) (aC H p (.lst (kc xs lo hi)))
theorem i9:GW X (ET X.K):=by
 intro pins s σ H x v vl vu lo hi sl Q I rx hs pl pu h;obtain⟨a,xs,rfl,hx,q⟩:=h;cases rx;obtain⟨its,r,ht,hz⟩:=I.list hx;have hlen:=r.length;refine⟨"list",_,slot_list_getitem.lookup,ht.isList.typeIs,?_⟩;refine wpAny_getItem_list_slice ht.isList hs pl pu .none (by simp) ?_ (by rw[JS]<;>omega);rw[oY,<- hlen];refine⟨.ref s.heap.objs.size,_,I.laid (t':=s.toks) (o:=.lst (kc xs lo hi)) (λb ob q=>JL _ q) (J8 _) ?_,rfl,q _ (I.hok.fresh (J8 _))⟩;exact⟨Kd (vd xs lo hi) hz,_,0,(r.drop (HT.sIx xs.length 0 lo)).take (HT.sIx xs.length xs.length hi-HT.sIx xs.length 0 lo),JR _ rfl⟩
def DJ:V->Bool
 | .non=>true
 | .bl _=>true
 | .int _=>true
 | .str _=>true
 |_=>false
def D_:V->V->Bool
 | .non,.non=>true
 | .bl a,.bl b=>a==b
 | .bl a,.int b=>(if a then 1 else 0)==b
 | .int a,.bl b=>a==(if b then 1 else 0)
 | .int a,.int b=>a==b
 | .str a,.str b=>a==b
 |_,_=>false
theorem iF{A:KR}{s:KJ}{y x:V}{u v:Value}(ry:bf y u)(rx:bf x v)(fy:DJ y=true)(fx:DJ x=true):SeqAt.EqAt A s u v (D_ y x):=by
 cases y with
 |non=>
  cases ry;cases x with
  |non=>cases rx;exact SeqAt.EqAt.same _
  |bl b=>cases rx;exact SeqAt.EqAt.none_bool b
  |int b=>obtain⟨t,rfl⟩:=rx;exact SeqAt.EqAt.none_int b t
  |str b=>obtain⟨t,rfl⟩:=rx;exact SeqAt.EqAt.none_str b t
  |_=>exact absurd (show false=true from fx) J_
 |bl a=>
  cases ry;cases x with
  |non=>cases rx;exact SeqAt.EqAt.bool_none a
  |bl b=>cases rx;exact SeqAt.EqAt.bool_bool a b
  |int b=>obtain⟨t,rfl⟩:=rx;exact SeqAt.EqAt.bool_int a b t
  |str b=>obtain⟨t,rfl⟩:=rx;exact SeqAt.EqAt.bool_str a b t
  |_=>exact absurd (show false=true from fx) J_
 |int a=>
  obtain⟨t',rfl⟩:=ry;cases x with
  |non=>cases rx;exact SeqAt.EqAt.int_none a t'
  |bl b=>cases rx;exact SeqAt.EqAt.int_bool a t' b
  |int b=>obtain⟨t,rfl⟩:=rx;exact SeqAt.EqAt.int_int a t' b t
  |str b=>obtain⟨t,rfl⟩:=rx;exact SeqAt.EqAt.int_str a t' b t
  |_=>exact absurd (show false=true from fx) J_
 |str a=>
  obtain⟨t',rfl⟩:=ry;cases x with
  |non=>cases rx;exact SeqAt.EqAt.str_none a t'
  |bl b=>cases rx;exact SeqAt.EqAt.str_bool a t' b
  |int b=>obtain⟨t,rfl⟩:=rx;exact SeqAt.EqAt.str_int a t' b t
  |str b=>obtain⟨t,rfl⟩:=rx;exact SeqAt.EqAt.str_str a t' b t
  |_=>exact absurd (show false=true from fx) J_
 |_=>exact absurd (show false=true from fy) J_
theorem qO:g8 X (.builtin "len") (λxs H Q=>∃p ys,xs=[.ref p]/\(aQ X.K H p ys\/jv X.K H p ys)/\Q (.int ys.length) H):=by
 intro pins s σ H xs us Q I r h;obtain⟨p,ys,rfl,hq,q⟩:=h;obtain⟨u,rfl,rx⟩:=vf r;cases rx;have hn:=nq;rcases hq with hq | hq
 ·obtain⟨its,r',pl,hz⟩:=I.list hq
  have hlen:=r'.length;exact Calls.call_len_list pl.isList (by simp only[JS]<;>omega) ⟨.int ys.length,H,I.tok _,⟨s.toks+1,by rw[JS,hlen]⟩,q⟩
 ·obtain⟨its,r',pl,hz⟩:=I.tuple hq
  have hlen:=r'.length;exact len_tuple pl (by simp only[JS]<;>omega) ⟨.int ys.length,H,I.tok _,⟨s.toks+1,by rw[JS,hlen]⟩,q⟩
theorem bL:g8 X (.builtin "len") (λxs H Q=>∃z,xs=[.str z]/\z.length<=sizeLine/\Q (.int z.length) H):=by
 intro pins s σ H xs us Q I r h;obtain⟨z,rfl,hz,q⟩:=h;obtain⟨u,rfl,t,rfl⟩:=vf r;have hn:=nq;exact len_str ⋯ ⟨.int z.length,H,I.tok _,⟨_,rfl⟩,q⟩
theorem cg:g8 X (.type "list") (λxs H Q=>∃p ys,xs=[.ref p]/\(aQ X.K H p ys\/jv X.K H p ys)/\∀l,H l=none->Q (.ref l) (aC H l (.lst ys))):=by
 intro pins s σ H xs us Q I r h;obtain⟨p,ys,rfl,hq,q⟩:=h;obtain⟨u,rfl,rx⟩:=vf r;cases rx;have fin:∀(its:KL),aW ys its->ys.length<=sizeLine->∀(h':Heap) (c':Nat),(∀b o',s.heap.get? b=some o'->h'.get? b=some o') ->
   h'.get? s.heap.objs.size=some {cls:=.type "list",dict:=none,data:=.seq its.toArray c',slots:=#[]}->EP X pins σ Q (.ref s.heap.objs.size) {s with heap:=h' }:=λits r' hz h' c' kp e=>
  ⟨.ref s.heap.objs.size,_,I.laid (t':=s.toks) kp (J8 _) (show bN X.prog X.w _ h' _ (.lst ys) from⟨hz,its,c',r',e⟩),rfl,q _ (I.hok.fresh (J8 _))⟩
 rcases hq with hq | hq
 ·obtain⟨its,r',pl,hz⟩:=I.list hq
  have hlen:=r'.length;obtain⟨o,ho,hc,n,hd⟩:=pl.isList;exact call_list_seq p (.inl rfl) ho hc hd (λh' c' kp e=>fin its r' hz h' c' kp e) (by simp only[JS]<;>omega)
 ·obtain⟨its,r',pl,hz⟩:=I.tuple hq
  have hlen:=r'.length;obtain⟨o,ho,hc,n,hd⟩:=pl;exact call_list_seq p (.inr rfl) ho hc hd (λh' c' kp e=>fin its r' hz h' c' kp e) (by simp only[JS]<;>omega)
def Ha(K:KG)(T:String)(x:V)(H:Hp):Prop:=match x with
 | .str _=>T="str"
 | .int _=>T="int"
 | .ref p=>(T="list"/\∃xs,aQ K H p xs)\/(T="tuple"/\∃o,K.lookup p=some o/\o.cls=.type "tuple"/\o.dict=none) \/
   (T="dict"/\((∃kvs,H p=some (.dK kvs))\/∃kvs,H p=some (.dT kvs)))\/(T="set"/\∃S n,H p=some (.set S n))
 |_=>False
theorem Eg{pins:KH}{σ:St}{H:Hp}{s:KJ}{T:String}{x:V}{v:Value}(I:Inv X pins σ H s)(r:bf x v)(ty:Ha X.K T x H) :
  s.TypeIs v T/\∀a,v=.ref a->∃ob,s.heap.get? a=some ob/\ob.dict=none:=by
 cases x with
 |str z=>
  obtain⟨t,rfl⟩:=r;cases(show T="str" from ty);exact⟨typeIs_str s z t,λ_ e=>nomatch e⟩
 |int i=>
  obtain⟨t,rfl⟩:=r;cases(show T="int" from ty);exact⟨typeIs_int s i t,λ_ e=>nomatch e⟩
 |ref p=>
  cases r;rcases ty with⟨rfl,xs,hq⟩ | ⟨rfl,o,hk,hc,hd⟩ | ⟨rfl,hk⟩ | ⟨rfl,S,n,hk⟩
  ·obtain⟨its,_,pl,_⟩:=I.list hq
   refine⟨pl.isList.typeIs,λa e=>?_⟩;cases e;obtain⟨o,n,e,c,hd,_⟩:=pl;exact⟨o,e,hd⟩
  ·refine⟨⟨o,I.kIn p o hk,hc⟩,λa e=>?_⟩
   cases e;exact⟨o,I.kIn _ o hk,hd⟩
  ·have z:∃o,s.heap.get? p=some o/\o.ExactDict:=by
    rcases hk with⟨kvs,hk⟩ | ⟨kvs,hk⟩
    ·obtain⟨_,_,_,_,o,_,_,e,ex,_⟩:=I.hok p _ hk
     exact⟨o,e,ex⟩
    ·obtain⟨_,_,_,_,o,_,_,e,ex,_⟩:=I.hok p _ hk
     exact⟨o,e,ex⟩
   obtain⟨o,e,ex⟩:=z;refine⟨⟨o,e,ex.1⟩,λa e2=>?_⟩;cases e2;exact⟨o,e,ex.2.1⟩
  ·obtain⟨o,_,_,_,e,ex,_⟩:=I.hok p _ hk
   refine⟨⟨o,e,ex.1⟩,λa e2=>?_⟩;cases e2;exact⟨o,e,ex.2.1⟩
 |_=>exact False.elim ty
def F8(K:KG)(T:String)(r:V->List V->Hp->VK->Prop)(to:TE)(t:TA):TE:=λσ H Q=>to σ H λx H1=>Ha K T x H1/\t σ H1 λxs H2=>r x xs H2 Q
variable {o e:Expr}{es:KW}{to:TE}{t:TA}{name:Str}{apos cpos:Pos}{T id:String}{r:V->List V->Hp->VK->Prop}
theorem eC(pa:PlainAttrs T)(slot:Slot T name id)(hty:typeOf (.builtin id)=pure (.type "method_descriptor"))(hm:GA X id r)(ho:PE X o to)(ha:PA X (e::es) t)
  (hbase:autoParam (attributeBase o name X.env (eval o X.env)=eval o X.env) zz0._auto_1)
  (hfew:autoParam (((backTo cpos (starEach (e::es) X.env)).all (λx=>!x.1)&&(backToKw cpos (keywordEach [] X.env)).all (λx=>x.1.isSome)
   && decide ((e::es).length+([]:List Keyword).length+(if([]:List Keyword).isEmpty then 0 else 1)<30))=true) zz0._auto_1)
  (hline:autoParam ((apos.endLine==cpos.line)=true) zz0._auto_1) (hs:autoParam (starEach (e::es) X.env=(false,eval e X.env)::starEach es X.env) zz0._auto_1) (hplain:autoParam ((backTo cpos (starEach es X.env)).any (·.1)=false) zz0._auto_1) :
  PE X (.Call (.Attribute o name apos) (e::es) [] cpos) (F8 X.K T r to t):=by
 intro pins s σ H Q I h;refine wpAny_Call_method_late hbase hfew hline rfl (bU (ho pins s σ H _ I h) λv s1 ⟨x,H1,I1,r1,ty,q1⟩=>?_);obtain⟨h1,h2⟩:=Eg I1 r1 ty;refine⟨T,id,pa,slot,hty,h1,h2,?_⟩;have hA:=ha cpos pins s1 σ H1 _ I1 q1;rw[hs]at hA ⊢;refine Calls.callWith_builtin (by show(false||(backTo cpos (starEach es X.env)).any (·.1))=false;rw[hplain]<;>rfl) (Calls.evalArgs_plain ?_);exact bU hA λus s2 ⟨vs,H2,I2,r2,q2⟩=>hm pins s2 σ H2 x vs v us Q I2 r1 r2 q2
end
def G'(X:Cx)(id:String)(r:V->List V->Hp->VK->Prop):Prop:=
 ∀(pins:KH) (s:KJ) (σ:St) (H:Hp) (x:V) (xs:List V) (v:Value) (us:KL) (Q:VK),Inv X pins σ H s->bf x v->aW xs us->r x xs H Q ->
  wpAny (model X.prog X.w) X.A (call (.builtin id) (v::us)) (EP X pins σ Q) X.xe s
theorem aW.one{x:V}{us:KL}(h:aW [x] us):∃u,us=[u]/\bf x u:=by
 cases h with | cons r h=>cases h;exact⟨_,rfl,r⟩
theorem aW.two{x y:V}{us:KL}(h:aW [x,y] us):∃u v,us=[u,v]/\bf x u/\bf y v:=by
 cases h with | cons r h=>obtain⟨u,rfl,q⟩:=aW.one h;exact⟨_,_,rfl,r,q⟩
theorem aW.rep{xs:List V}{us:KL}(h:aW xs us):∀k:Nat,aW (List.replicate k xs).flatten (List.replicate k us).flatten
 |0=>.nil
 |k+1=>by
  rw[List.replicate_succ,List.replicate_succ,List.flatten_cons,List.flatten_cons];exact aW.append h (aW.rep h k)
theorem qy(its:KL):∀(k:Nat) (acc:KL),
  List.foldl (λx1 x2=>x1++x2) acc.toArray (List.replicate k its.toArray)=(acc++(List.replicate k its).flatten).toArray
 |0,acc=>by simp
 |k+1,acc=>by
  have e:acc.toArray++its.toArray=(acc++its).toArray:=by simp
  have e2:(acc++its)++(List.replicate k its).flatten=acc++(List.replicate (k+1) its).flatten:=by
   rw[List.replicate_succ,List.flatten_cons,Kh]
  rw[<- e2,<- qy its k (acc++its),<- e,List.replicate_succ,List.foldl_cons]
section
variable {X:Cx}{pins:KH}{σ:St}{H:Hp}{s:KJ}{l b:Addr}{xs ys zs:List V}
theorem Inv.lset{its its':KL}{n:Nat}{f:Array Value->Array Value}{t':Nat}(I:Inv X pins σ H s)(hH:H l=some (.lst xs))
  (e:s.heap.get? l=some {cls:=.type "list",data:=.seq its.toArray n}) (hf:f its.toArray=its'.toArray) (hv:aW ys its') (hz:ys.length<=sizeLine) :
  Inv X pins σ (aC H l (.lst ys)) {s with heap:=s.heap.update l (Obj.mapSeq f),toks:=t' }:=by
 have q:=PySem.IsL.update e f;rw[hf]at q;refine I.write (x:=l) (e:=l) (by rw[hH];exact trivial) (.inl rfl) (λb' u hb hu=>(JQ s.heap (Obj.mapSeq f) (Ne.symm hb)).trans hu) ⟨_,q⟩ ?_;exact⟨hz,its',_,hv,q⟩
theorem Inv.lnew{its:KL}{t':Nat}(I:Inv X pins σ H s)(hv:aW ys its)(hz:ys.length<=sizeLine) :
  Inv X pins σ (aC H s.heap.objs.size (.lst ys)) {s with heap:=s.heap.push {cls:=.type "list",data:=.seq its.toArray},toks:=t' }:=
 I.laid (λ_ _ q=>JL _ q) (J8 _) ⟨hz,its,0,hv,JR _ rfl⟩
theorem Inv.fresh(I:Inv X pins σ H s):H s.heap.objs.size=none:=I.hok.fresh (J8 _)
theorem Inv.lstM(I:Inv X pins σ H s)(hH:H l=some (.lst xs)):xs.length<=sizeLine/\∃(its:KL) (n:Nat),aW xs its/\xs.length=its.length/\s.heap.get? l=some {cls:=.type "list",data:=.seq its.toArray n}:=by
 obtain⟨z,its,n,r,e⟩:=I.hok l _ hH;exact⟨z,its,n,r,r.length,e⟩
theorem uh{n:Nat}(h:n<=sizeLine):Builtin.List.listTooLong n=false:=by
 unfold Builtin.List.listTooLong;exact decide_eq_false ⋯
end
section
variable {X:Cx}
def rF:V->List V->Hp->VK->Prop:=λx vs H Q=>∃l xs y,x=.ref l/\vs=[y]/\H l=some (.lst xs)/\xs.length<sizeLine/\Q .non (aC H l (.lst (xs++[y])))
theorem bX:G' X "list.append" rF:=by
 intro pins s σ H x vs v us Q I rx rv h;obtain⟨l,xs,y,rfl,rfl,hH,hz,q⟩:=h;cases rx;obtain⟨u,rfl,ru⟩:=rv.one;obtain⟨z,its,n,r,hl,e⟩:=I.lstM hH;refine call_meets F.slot_list_append ⟨_,e,rfl⟩ F.entry_list_append (F.args_list_append_2 _ _) (PySem.list_append l its.toArray n u (by rw[JS];omega)) ⟨e,?_⟩;refine⟨.non,_,I.lset (its':=its++[u]) hH e (by simp) (r.append (.cons ru .nil)) ?_,rfl,q⟩;rw[J7,List.length_singleton];omega
def qP:V->List V->Hp->VK->Prop:=λx vs H Q=>∃l b xs zs,x=.ref l/\vs=[.ref b]/\H l=some (.lst xs)/\H b=some (.lst zs)/\xs.length+zs.length<=sizeLine/\Q .non (aC H l (.lst (xs++zs)))
theorem zA:G' X "list.extend" qP:=by
 intro pins s σ H x vs v us Q I rx rv h;obtain⟨l,b,xs,zs,rfl,rfl,hH,hB,hz,q⟩:=h;cases rx;obtain⟨u,rfl,ru⟩:=rv.one;cases ru;obtain⟨z,its,n,r,hl,e⟩:=I.lstM hH;obtain⟨z2,its2,n2,r2,hl2,e2⟩:=I.lstM hB;have hsz:its.toArray.size+its2.toArray.size<=sizeLine:=by rw[JS,JS];omega
 have hlong:¬ (!its.toArray.isEmpty&&Builtin.List.listTooLong (its.toArray.size+its2.toArray.size))=true:=by
  rw[uh hsz,Bool.and_false];exact J_
 refine call_meets F.slot_list_extend ⟨_,e,rfl⟩ F.entry_list_extend (F.args_list_extend_2 _ _)
  (AutoSeq1.list_extend_list_list_0 l its.toArray n b its2.toArray n2 hlong (by rw[JS];omega) ⋯) ⟨e,e2,?_⟩
 refine⟨.non,_,I.lset (its':=its++its2) hH e (by simp) (r.append r2) ?_,rfl,q⟩;rw[J7];omega
def E5:R2:=λx y H Q=>∃l b xs zs,x=.ref l/\y=.ref b/\H l=some (.lst xs)/\H b=some (.lst zs)/\xs.length+zs.length<=sizeLine/\∀p,H p=none->Q (.ref p) (aC H p (.lst (xs++zs)))
theorem wm:bx X (binaryOp .Add) E5:=by
 intro pins s σ H x y v u Q I rx ry h;obtain⟨l,b,xs,zs,rfl,rfl,hH,hB,hz,q⟩:=h;cases rx;cases ry;obtain⟨z,its,n,r,hl,e⟩:=I.lstM hH;obtain⟨z2,its2,n2,r2,hl2,e2⟩:=I.lstM hB;refine PySem.P.add_list e e2 ?_ (by rw[JS,JS];omega);have ea:its.toArray++its2.toArray=(its++its2).toArray:=by simp
 rw[ea];exact⟨.ref _,_,I.lnew (t':=s.toks) (r.append r2) (by rw[J7];omega),rfl,q _ I.fresh⟩
def Ew:R2:=λx y H Q=>∃l k xs,x=.ref l/\y=.int k/\H l=some (.lst xs)/\-(2 ^ 63)<=k/\k<2 ^ 63/\xs.length*k.toNat<=sizeLine /\
 ∀p,H p=none->Q (.ref p) (aC H p (.lst (List.replicate k.toNat xs).flatten))
theorem kg{α:Type}(xs:List α)(k:Nat):(List.replicate k xs).flatten.length=k*xs.length:=by
 induction k with
 |zero=>simp
 |succ k ih=>rw[List.replicate_succ,List.flatten_cons,J7,ih,Nat.succ_mul,Nat.add_comm]
theorem EC:bx X (binaryOp .Mult) Ew:=by
 intro pins s σ H x y v u Q I rx ry h;obtain⟨l,k,xs,rfl,rfl,hH,h1,h2,hz,q⟩:=h;cases rx;obtain⟨t,rfl⟩:=ry;obtain⟨z,its,n,r,hl,e⟩:=I.lstM hH;have hlen:its.toArray.size*k.toNat<=sizeLine:=by rw[JS,<- hl];exact hz
 have hcap:¬ its.toArray.size*k.toNat>(2 ^ 63-1)/8:=by
  have:(sizeLine:Nat)<=(2 ^ 63-1)/8:=by decide
  omega
 have hfit:¬ (!Builtin.List.listFitsIndex k)=true:=by
  rw[fitsIndex_both h1 h2];exact J_
 have hlong:¬ Builtin.List.listTooLong (its.toArray.size*k.toNat)=true:=by
  rw[uh hlen];exact J_
 have hnew:List.foldl (λx1 x2=>x1++x2) #[] (List.replicate (if its.toArray.isEmpty=true then 0 else k.toNat) its.toArray)=(List.replicate k.toNat its).flatten.toArray:=by
  have f0:∀m:Nat,List.foldl (λx1 x2=>x1++x2) #[] (List.replicate m its.toArray)=(List.replicate m its).flatten.toArray:=λm=>by
   have:=qy its m [];rw[Kx]at this;exact this
  rw[f0];cases its with
  |nil=>simp
  |cons a r'=>rw[if_neg (by simp)]
 refine wpAny_binaryOp_repeat_ref (T:="list") (U:="int") nofun ⟨_,e,rfl⟩ (λs'=>typeIs_int s' k t) noFill_list_mul F.fills_int_mul F.slot_int_rmul repeat_list F.slot_int_index.lookup
  (call_meets F.slot_int_rmul (typeIs_int s k t) F.entry_int_rmul (F.args_int_rmul_2 _ _) (int___rmul___int_list k t l its.toArray n)
   ⟨e,rfl,⟨_,e,rfl⟩,call_meets F.slot_list_mul ⟨_,e,rfl⟩ F.entry_list_mul (F.args_list_mul_2 _ _) (AutoListH.list___mul___list_int_3 l its.toArray n k t hfit hcap hlong) ⟨e,?_⟩⟩)
 rw[hnew];exact⟨.ref _,_,I.lnew (t':=s.toks) (r.rep k.toNat) (by rw[kg,Nat.mul_comm];exact hz),rfl,q _ I.fresh⟩
end
section
variable {κ:Type}[DecidableEq κ]
def cQ(kvs:List (κ×V))(k:κ):Option V:=(kvs.find? λkv=>decide (kv.1=k)).map (·.2)
def di(kvs:List (κ×V))(k:κ)(v:V):List (κ×V):=
 if(kvs.any λkv=>decide (kv.1=k))=true then kvs.map (λkv=>if kv.1=k then(kv.1,v) else kv) else kvs++[(k,v)]
theorem gq{p:κ×V}{r:List (κ×V)}{k:κ}(e:p.1=k):cQ (p::r) k=some p.2:=by simp[cQ,List.find?_cons,e]
theorem f_{p:κ×V}{r:List (κ×V)}{k:κ}(e:¬ p.1=k):cQ (p::r) k=cQ r k:=by simp[cQ,List.find?_cons,e]
theorem gn(k:κ):∀kvs:List (κ×V),(kvs.any λkv=>decide (kv.1=k))=(cQ kvs k).isSome
 | []=>rfl
 |p::r=>by
  rw[List.any_cons]
  by_cases e:p.1=k
  ·simp only[gq e,decide_eq_true e,Bool.true_or,Option.isSome_some]
  ·rw[f_ e,decide_eq_false e,Bool.false_or];exact gn k r
theorem fP(kvs:List (κ×V))(k:κ)(v:V):(di kvs k v).length<=kvs.length+1:=by
 unfold di
 split
 ·rw[JM];omega
 ·rw[J7,JW,List.length_nil];omega
theorem Bp{kvs:List (κ×V)}{k:κ}(v:V)(h:cQ kvs k=none):di kvs k v=kvs++[(k,v)]:=by
 unfold di;rw[gn,h];exact if_neg nofun
theorem gO.isSome_eq{o:Option V}{u:Option Value}(r:gO o u):o.isSome=u.isSome:=by
 cases o with
 |none=>cases u with
  |none=>rfl
  |some _=>exact(show False from r).elim
 |some _=>cases u with
  |none=>exact(show False from r).elim
  |some _=>rfl
theorem gO.getD{o:Option V}{u:Option Value}{d:V}{d':Value}(r:gO o u)(rd:bf d d'):bf (o.getD d) (u.getD d'):=by
 cases o with
 |none=>cases u with
  |none=>exact rd
  |some _=>exact(show False from r).elim
 |some _=>cases u with
  |none=>exact(show False from r).elim
  |some _=>exact r
theorem KV.val{kvs:List (κ×V)}{vs:List (κ×Value)}(r:KV kvs vs)(k:κ):gO (cQ kvs k) (valueAt vs k):=by
 unfold KV at r
 induction r with
 |nil=>exact True.intro
 | @cons p q ps qs h t ih=>
  obtain⟨h1,h2⟩:=h
  by_cases e:p.1=k
  ·have e':q.1=k:=h1.symm.trans e
   have b:valueAt (q::qs) k=some q.2:=by simp[valueAt,List.find?_cons,e']
   rw[gq e,b];exact h2
  ·have e':¬ q.1=k:=λz=>e (h1.trans z)
   have b:valueAt (q::qs) k=valueAt qs k:=by simp[valueAt,List.find?_cons,e']
   rw[f_ e,b];exact ih
theorem KV.any{kvs:List (κ×V)}{vs:List (κ×Value)}(r:KV kvs vs)(k:κ):(kvs.any λkv=>decide (kv.1=k))=vs.any λkv=>decide (kv.1=k):=by
 unfold KV at r
 induction r with
 |nil=>rfl
 |cons h t ih=>rw[List.any_cons,List.any_cons,ih,h.1]
theorem KV.repl{kvs:List (κ×V)}{vs:List (κ×Value)}(r:KV kvs vs)(k:κ){y:V}{u:Value}(ry:bf y u) :
  KV (kvs.map λkv=>if kv.1=k then(kv.1,y) else kv) (vs.map λkv=>if kv.1=k then(kv.1,u) else kv):=by
 unfold KV at r ⊢
 induction r with
 |nil=>exact .nil
 | @cons p q ps qs h t ih=>
  rw[Kc,Kc];refine .cons ?_ ih;obtain⟨h1,h2⟩:=h
  by_cases e:p.1=k
  ·rw[if_pos e,if_pos (h1.symm.trans e)];exact⟨h1,ry⟩
  ·rw[if_neg e,if_neg (λz=>e (h1.trans z))];exact⟨h1,h2⟩
theorem KV.put{kvs:List (κ×V)}{vs:List (κ×Value)}(r:KV kvs vs)(k:κ){y:V}{u:Value}(ry:bf y u):KV (di kvs k y) (stored vs k u):=by
 unfold di stored;rw[r.any k]
 by_cases e:(vs.any λkv=>decide (kv.1=k))=true
 ·rw[if_pos e,if_pos e];exact r.repl k ry
 ·rw[if_neg e,if_neg e];exact Paired.snoc r ⟨rfl,ry⟩
theorem KV.keys{kvs:List (κ×V)}{vs:List (κ×Value)}(r:KV kvs vs):kvs.map (·.1)=vs.map (·.1):=by
 unfold KV at r
 induction r with
 |nil=>rfl
 |cons h t ih=>rw[Kc,Kc,ih,h.1]
theorem KV.length{kvs:List (κ×V)}{vs:List (κ×Value)}(r:KV kvs vs):kvs.length=vs.length:=Paired.length r
end
theorem l9{P:KP}{w:KS}{k:cC}{u:Value}(r:bf (kV k) u):(bM P w).is k u=true:=by
 cases k with
 |inl i=>obtain⟨t,e⟩:=(show ∃t,u=Value.int i t from r);subst e;exact uw P w i t
 |inr x=>obtain⟨t,e⟩:=(show ∃t,u=Value.str x t from r);subst e;exact ur P w x t
theorem qo{P:KP}{w:KS}:∀{ks:List cC} {us:KL},aW (ks.map kV) us->ItemsAre (bM P w) ks us
 | [],_,r=>by rw[List.map_nil]at r;cases r;exact .nil
 |k::ks,_,r=>by
  rw[Kc]at r;cases r with
  |cons h t=>exact .cons (l9 h) (qo t)
abbrev KT(H:Hp):List (List cC×V)->List (List cC×Addr×Value)->Prop:=Paired λp q=>p.1=q.1/\H q.2.1=some (.tup (p.1.map kV))/\bf p.2 q.2.2
theorem KT.val{H:Hp}{kvs:List (List cC×V)}{xs:List (List cC×Addr×Value)}(r:KT H kvs xs)(k:List cC):gO (cQ kvs k) ((atKey xs k).map (·.2)):=by
 induction r with
 |nil=>exact True.intro
 | @cons p q ps qs h t ih=>
  obtain⟨h1,_,h2⟩:=h
  by_cases e:p.1=k
  ·have e':q.1=k:=h1.symm.trans e
   have b:atKey (q::qs) k=some q.2:=by simp[atKey,List.find?_cons,e']
   rw[gq e,b];exact h2
  ·have e':¬ q.1=k:=λz=>e (h1.trans z)
   have b:atKey (q::qs) k=atKey qs k:=by simp[atKey,List.find?_cons,e']
   rw[f_ e,b];exact ih
theorem KT.repl{H:Hp}{kvs:List (List cC×V)}{xs:List (List cC×Addr×Value)}(r:KT H kvs xs)(k:List cC){y:V}{u:Value}(ry:bf y u) :
  KT H (kvs.map λkv=>if kv.1=k then(kv.1,y) else kv) (xs.map (putAt k u)):=by
 induction r with
 |nil=>exact .nil
 | @cons p q ps qs h t ih=>
  rw[Kc,Kc];refine .cons ?_ ih;obtain⟨h1,h2,h3⟩:=h;unfold putAt
  by_cases e:p.1=k
  ·rw[if_pos e,if_pos (h1.symm.trans e)];exact⟨h1,h2,ry⟩
  ·rw[if_neg e,if_neg (λz=>e (h1.trans z))];exact⟨h1,h2,h3⟩
theorem KT.put{H:Hp}{kvs:List (List cC×V)}{xs:List (List cC×Addr×Value)}(r:KT H kvs xs)(k:List cC){b:Addr}{y:V}{u:Value}(hb:H b=some (.tup (k.map kV)))(ry:bf y u) :
  KT H (di kvs k y) (storedH xs k b u):=by
 have e:(kvs.any λkv=>decide (kv.1=k))=(atKey xs k).isSome:=by
  rw[gn,(r.val k).isSome_eq,Option.isSome_map]
 unfold di storedH;rw[e]
 by_cases q:(atKey xs k).isSome=true
 ·rw[if_pos q,if_pos q];exact r.repl k ry
 ·rw[if_neg q,if_neg q];exact Paired.snoc r ⟨rfl,hb,ry⟩
theorem KT.keeps{H H':Hp}{kvs:List (List cC×V)}{xs:List (List cC×Addr×Value)}(r:KT H kvs xs)(ht:∀b ys,H b=some (.tup ys)->H' b=some (.tup ys)):KT H' kvs xs:=
 Paired.mapP r λ_ _ z=>⟨z.1,ht _ _ z.2.1,z.2.2⟩
section
variable {P:KP}{w:KS}{H:Hp}{h:Heap}{a:Addr}
theorem DI{u:HO}(ok:je P w H h)(e:Rd H a u):bN P w H h a u:=e.ok ok
theorem lW{kvs:List (cC×V)}(ok:je P w H h)(e:Rd H a (.dK kvs)):kvs.length<=sizeLine/\(a==sysModules)=false/\∃vs,KV kvs vs/\h.DictOf (bM P w) a vs:=
 show bN P w H h a (.dK kvs) from DI ok e
theorem ql{kvs:List (cC×V)}(ok:je P w H h)(e:H a=some (.dK kvs)):kvs.length<=sizeLine/\(a==sysModules)=false/\∃vs,KV kvs vs/\h.DictOf (bM P w) a vs:=lW ok (.inl e)
theorem kN{ks:List cC}(ok:je P w H h)(e:H a=some (.tup (ks.map kV))):(tupleKind (bM P w)).is h ks a:=by
 obtain⟨_,its,r,o,h1,h2,n,h3⟩:=(show bN P w H h a (.tup (ks.map kV)) from ok a _ e);exact⟨o,its.toArray,n,h1,h2,h3,by simpa using qo r⟩
theorem ol{kvs:List (List cC×V)}(ok:je P w H h)(e:Rd H a (.dT kvs)):kvs.length<=sizeLine/\(a==sysModules)=false /\
  ∃xs,KT H kvs xs/\h.DictOfH (tupleKind (bM P w)) a xs:=by
 obtain⟨z,y,xs,r,o,es,ep,h1,h2,h3,h4,h5⟩:=(show bN P w H h a (.dT kvs) from DI ok e);refine⟨z,y,xs,r,o,es,ep,h1,h2,h3,h4,λx hx=>?_,h5⟩;have all:∀{l:List (List cC×V)} {m:List (List cC×Addr×Value)},KT H l m->∀x∈m,(tupleKind (bM P w)).is h x.1 x.2.1:=by
  intro l m q
  induction q with
  |nil=>intro x hx;exact nomatch hx
  | @cons p q ps qs hq t ih=>
   intro x hx;rcases J0.mp hx with e | hx
   ·subst e
    exact kN ok (by rw[<- hq.1];exact hq.2.1)
   ·exact ih x hx
 exact all r x hx
theorem FW{kvs:List (List cC×V)}(ok:je P w H h)(e:H a=some (.dT kvs)):kvs.length<=sizeLine/\(a==sysModules)=false /\
  ∃xs,KT H kvs xs/\h.DictOfH (tupleKind (bM P w)) a xs:=ol ok (.inl e)
end
def kD(H:Hp)(a:Addr)(y:V)(r:Option V):Prop:=
 (∃kvs k,Rd H a (.dK kvs)/\y=kV k/\r=cQ kvs k)\/∃kvs k b,Rd H a (.dT kvs)/\y=.ref b/\H b=some (.tup (k.map kV))/\r=cQ kvs k
def vL(H:Hp)(a:Addr)(y v:V)(H':Hp):Prop:=
 (∃kvs k,H a=some (.dK kvs)/\y=kV k/\kvs.length<sizeLine/\H'=aC H a (.dK (di kvs k v))) \/
 ∃kvs k b,H a=some (.dT kvs)/\y=.ref b/\H b=some (.tup (k.map kV))/\kvs.length<sizeLine/\H'=aC H a (.dT (di kvs k v))
theorem kD.t{H:Hp}{a b:Addr}{kvs:List (List cC×V)}{k:List cC}(e:H a=some (.dT kvs))(eb:H b=some (.tup (k.map kV))):kD H a (.ref b) (cQ kvs k):=.inr ⟨kvs,k,b,.inl e,rfl,eb,rfl⟩
theorem vL.t{H:Hp}{a b:Addr}{kvs:List (List cC×V)}{k:List cC}{v:V}(e:H a=some (.dT kvs))(eb:H b=some (.tup (k.map kV)))(hl:kvs.length<sizeLine) :
  vL H a (.ref b) v (aC H a (.dT (di kvs k v))):=.inr ⟨kvs,k,b,e,rfl,eb,hl,rfl⟩
section
variable {X:Cx}{pins:KH}{σ:St}{H:Hp}{s:KJ}{a:Addr}{y v:V}{u r:Value}{o:Option V}{A:KR}{E:KF}
theorem Inv.big(I:Inv X pins σ H s):sysModules<s.heap.objs.size:=by
 have h:mainGlobals<s.heap.objs.size:=(I.mod.glob.keeps I.bk).lt;exact Nat.lt_trans nofun h
theorem zF{Q:KF}(hu:A.units+1<cLine)(I:Inv X pins σ H s)(g:kD H a y (some v))(ry:bf y u)(h:∀w' s',Inv X pins σ H s'->bf v w'->Q w' s') :
  wpAny (model X.prog X.w) A (getItem (.ref a) u) Q E s:=by
 rcases g with⟨kvs,k,e,ey,l⟩ | ⟨kvs,k,b,e,ey,eb,l⟩
 ·subst ey
  obtain⟨z,hd,vs,rel,dd⟩:=lW I.hok e;obtain⟨w',hw,rw'⟩:=gO.some_of (v:=v) (o:=valueAt vs k) (by rw[l];exact rel.val k);exact wpAny_getItem_of (l9 ry) dd.mapOf hw (h w' _ (I.tok _) rw')
 ·subst ey
  cases(show u=Value.ref b from ry);obtain⟨z,hd,xs,rel,dd⟩:=ol I.hok e;obtain⟨w',hw,rw'⟩:=gO.some_of (v:=v) (o:=(atKey xs k).map (·.2)) (by rw[l];exact rel.val k);obtain⟨p,hp,hp2⟩:=Ka.mp hw;refine wpAny_getItem_heap (tupleKind_room_in1 hu) (kN I.hok eb) dd hp ?_;rw[hp2];exact h w' _ (I.tok _) rw'
theorem G1{Q:KF}(hu:A.units+1<cLine)(I:Inv X pins σ H s)(g:kD H a y o)(ry:bf y u)(h:∀s',Inv X pins σ H s'->Q (.bool o.isSome) s') :
  wpAny (model X.prog X.w) A (compareOp .In u (.ref a)) Q E s:=by
 rcases g with⟨kvs,k,e,ey,l⟩ | ⟨kvs,k,b,e,ey,eb,l⟩
 ·subst ey
  obtain⟨z,hd,vs,rel,dd⟩:=lW I.hok e;refine wpAny_in_of (l9 ry) hd dd.mapOf ?_;rw[<- (rel.val k).isSome_eq,<- l];exact h _ (I.tok _)
 ·subst ey
  cases(show u=Value.ref b from ry);obtain⟨z,hd,xs,rel,dd⟩:=ol I.hok e;refine wpAny_in_heap (tupleKind_room_in1 hu) (kN I.hok eb) hd dd ?_;have q:=(rel.val k).isSome_eq;rw[Option.isSome_map]at q;rw[<- q,<- l];exact h _ (I.tok _)
theorem Dw{Q:KF}(hu:A.units+1<cLine)(I:Inv X pins σ H s)(g:kD H a y o)(ry:bf y u)(h:∀s',Inv X pins σ H s'->Q (.bool (!o.isSome)) s') :
  wpAny (model X.prog X.w) A (compareOp .NotIn u (.ref a)) Q E s:=by
 rcases g with⟨kvs,k,e,ey,l⟩ | ⟨kvs,k,b,e,ey,eb,l⟩
 ·subst ey
  obtain⟨z,hd,vs,rel,dd⟩:=lW I.hok e;refine wpAny_notIn_of (l9 ry) hd dd.mapOf ?_;rw[<- (rel.val k).isSome_eq,<- l];exact h _ (I.tok _)
 ·subst ey
  cases(show u=Value.ref b from ry);obtain⟨z,hd,xs,rel,dd⟩:=ol I.hok e;refine wpAny_notIn_heap (tupleKind_room_in1 hu) (kN I.hok eb) hd dd ?_;have q:=(rel.val k).isSome_eq;rw[Option.isSome_map]at q;rw[<- q,<- l];exact h _ (I.tok _)
theorem mP{h':Heap}{t':Nat}{ob:HO}(I:Inv X pins σ H s)(mu:FX (H a))(hs:Heap.SameBut a s.heap h')(he:∃q,h'.get? a=some q)(new:bN X.prog X.w (aC H a ob) h' a ob) :
  Inv X pins σ (aC H a ob) {s with heap:=h',toks:=t' }:=
 I.write (x:=a) (e:=a) mu (.inl rfl) (λb q hb z=>(hs.2 b hb).trans z) he new
theorem wz{P:KP}{w:KS}{H':Hp}{h':Heap}{kvs:List (cC×V)}{vs:List (cC×Value)}(z:kvs.length<=sizeLine)(hd:(a==sysModules)=false)(rel:KV kvs vs)(dd:h'.DictOf (bM P w) a vs) :
  bN P w H' h' a (.dK kvs):=⟨z,hd,vs,rel,dd⟩
theorem zc{H':Hp}{Q:Unit->Shared->Prop}(hu:A.units+1<cLine)(I:Inv X pins σ H s)(g:vL H a y v H')(ry:bf y u)(rv:bf v r)(h:∀s',Inv X pins σ H' s'->Q () s') :
  wpAny (model X.prog X.w) A (setItem (.ref a) u r) Q E s:=by
 rcases g with⟨kvs,k,e,ey,l,eH⟩ | ⟨kvs,k,b,e,ey,eb,l,eH⟩
 ·subst ey eH
  obtain⟨z,hd,vs,rel,dd⟩:=ql I.hok e;have hz:vs.length<=sizeLine:=by rw[<- rel.length];exact z
  have hl:(di kvs k v).length<=sizeLine:=by have:=fP kvs k v;omega
  refine wpAny_setItem_pairs (hsz:=hz) (l9 ry) dd λh' dd' hs=>h _ ?_;have he:∃q,h'.get? a=some q:=let ⟨q,_,_,hq,_⟩:=dd';⟨q,hq⟩
  exact mP I (by rw[e];exact True.intro) hs he (wz hl hd (rel.put k rv) dd')
 ·subst ey eH
  cases(show u=Value.ref b from ry);obtain⟨z,hd,xs,rel,dd⟩:=FW I.hok e;have hz:xs.length<=sizeLine:=by rw[<- Paired.length rel];exact z
  have hl:(di kvs k v).length<=sizeLine:=by have:=fP kvs k v;omega
  refine wpAny_setItem_heap (hsz:=hz) (tupleKind_room_in1 hu) (kN I.hok eb) dd λh' dd' hs=>h _ ?_;obtain⟨q,es,ep,hq,h2,h3,h4,_,h5⟩:=dd';refine mP I (by rw[e];exact True.intro) hs ⟨q,hq⟩ ⟨hl,hd,_,(rel.put k eb rv).keeps λc ys ec=>?_,q,es,ep,hq,h2,h3,h4,h5⟩;rw[ai (p_ ec e (λz=>nomatch z))];exact ec
end
section
variable {X:Cx}{pins:KH}{σ:St}{H:Hp}{s:KJ}{a:Addr}{kvs:List (cC×V)}{k:cC}{u:Value}{A:KR}{E:KF}
theorem Fw{Q:KF}(I:Inv X pins σ H s)(e:Rd H a (.dK kvs))(h:∀t s',Inv X pins σ H s'->Q (.int kvs.length t) s'):wpAny (model X.prog X.w) A (call (.builtin "len") [.ref a]) Q E s:=by
 obtain⟨z,hd,vs,rel,dd⟩:=lW I.hok e;refine call_len_dict hd dd (by rw[<- rel.length];rw[sizeLine_eq]at z;omega) ?_;rw[<- rel.length];exact h _ _ (I.tok _)
end
def FR(i:Expr):Prop:=∀ov iv,subscripted i false ov iv=operate [ov,iv] (getItem ov iv)
theorem CH{prog:KP}{w:KS}{A:KR}{E:KF}{s:KJ}{env:Env}{value slice:Expr}{pos:Pos}{T id:String}{Q:KF}
  (hl:typeLookup (.type T) "__getitem__"=pure (some (.builtin id))) (hs:FR slice)
  (h:wpAny (model prog w) A (eval value env) (λo s₁=>wpAny (model prog w) A (eval slice env) (λi s₂=>s₂.TypeIs o T/\wpAny (model prog w) A (getItem o i) Q E s₂) E s₁) E s) :
  wpAny (model prog w) A (eval (.Subscript value slice pos) env) Q E s:=by
 refine Subscript_ (wpAny_mono h (λo s₁ h₁=>wpAny_mono h₁ (λi s₂ h₂=>?_) λ_ _ x=>x) λ_ _ x=>x);obtain⟨hT,h₂⟩:=h₂;unfold subscriptTail;refine wpAny_bind ?_;rw[getitemInPython_of_ne hT.not_modules];refine wpAny_bind (wpAny_specialOf hT hl ?_);have fin:wpAny (model prog w) A (subscripted slice false o i) (λr s₃=>wpAny (model prog w) A (letTemporaryGo value o r >>= λ_=>pure r) Q E s₃) E s₂:=by
  rw[hs o i];exact wpAny_operating (wpAny_mono h₂ (λr s₃ h₃=>wpAny_bind (wpAny_letTemporaryGo (wpAny_pure h₃))) λ_ _ x=>x)
 first
  |exact wpAny_pure (wpAny_bind fin)
  |exact wpAny_bind (wpAny_pure (wpAny_bind fin))
  |exact wpAny_bind fin
theorem uK{X:Cx}{pins:KH}{σ:St}{H:Hp}{s:KJ}{a:Addr}{y:V}{o:Option V}(I:Inv X pins σ H s)(g:kD H a y o):s.TypeIs (.ref a) "dict":=by
 rcases g with⟨kvs,k,e,_,_⟩ | ⟨kvs,k,b,e,_,_,_⟩
 ·obtain⟨_,_,vs,_,dd⟩:=lW I.hok e
  exact dd.typeIs
 ·obtain⟨_,_,xs,_,dd⟩:=ol I.hok e
  exact dd.typeIs
def zM(td ty:TE):TE:=λσ H Q=>td σ H λx H1=>ty σ H1 λy H2=>∃a v,x=.ref a/\kD H2 a y (some v)/\Q v H2
def Ed(ty td:TE):TE:=λσ H Q=>ty σ H λy H1=>td σ H1 λx H2=>∃a o,x=.ref a/\kD H2 a y o/\Q (.bl o.isSome) H2
def rp(ty td:TE):TE:=λσ H Q=>ty σ H λy H1=>td σ H1 λx H2=>∃a o,x=.ref a/\kD H2 a y o/\Q (.bl (!o.isSome)) H2
def BG(td ty tv:TE):TS:=λD σ H=>tv σ H λv H1=>td σ H1 λx H2=>ty σ H2 λy H3=>∃a H4,x=.ref a/\vL H3 a y v H4/\D.nx σ H4
section
variable {X:Cx}{o i e value:Expr}{pos pos' tpos:Pos}{td ty tv:TE}
theorem iX(hu:X.A.units+1<cLine)(ho:PE X o td)(hi:PE X i ty)(hs:FR i):PE X (.Subscript o i pos) (zM td ty):=by
 intro pins s σ H Q I h;refine CH PySem.F.slot_dict_getitem.lookup hs (bU (ho pins s σ H _ I h) λu s1 ⟨x,H1,I1,rx,q1⟩=>bU (hi pins s1 σ H1 _ I1 q1) λiv s2 ⟨y,H2,I2,ry,a,v,ex,g,q2⟩=>?_);subst ex;obtain rfl:u=Value.ref a:=rx;exact⟨uK I2 g,zF hu I2 g ry λw' s3 I3 rw'=>⟨v,H2,I3,rw',q2⟩⟩
theorem Af(hu:X.A.units+1<cLine)(hi:PE X i ty)(ho:PE X o td):PC X .In i o (Ed ty td):=by
 intro pins s σ H Q I h;refine bU (hi pins s σ H _ I h) λiv s1 ⟨y,H1,I1,ry,q1⟩=>bU (ho pins s1 σ H1 _ I1 q1) λu s2 ⟨x,H2,I2,rx,a,ov,ex,g,q2⟩=>?_;subst ex;obtain rfl:u=Value.ref a:=rx;exact G1 hu I2 g ry λs3 I3=>⟨.bl ov.isSome,H2,I3,rfl,q2⟩
theorem lu(hu:X.A.units+1<cLine)(hi:PE X i ty)(ho:PE X o td):PC X .NotIn i o (rp ty td):=by
 intro pins s σ H Q I h;refine bU (hi pins s σ H _ I h) λiv s1 ⟨y,H1,I1,ry,q1⟩=>bU (ho pins s1 σ H1 _ I1 q1) λu s2 ⟨x,H2,I2,rx,a,ov,ex,g,q2⟩=>?_;subst ex;obtain rfl:u=Value.ref a:=rx;exact Dw hu I2 g ry λs3 I3=>⟨.bl (!ov.isSome),H2,I3,rfl,q2⟩
theorem m7(hu:X.A.units+1<cLine)(ho:PE X o td)(hi:PE X i ty)(hv:PE X value tv)(hs:swapsWith value (some (.Subscript o i pos')) pos.line X.env=pure false) :
  PS X (.Assign [.Subscript o i pos'] value pos) (BG td ty tv):=by
 intro pins s σ H D I h;refine wpAny_Assign_Subscript (bU (hv pins s σ H _ I h) λr s1 ⟨v,H1,I1,rv,q1⟩=>bU (ho pins s1 σ H1 _ I1 q1) λu s2 ⟨x,H2,I2,rx,q2⟩=>bU (hi pins s2 σ H2 _ I2 q2) λiv s3 ⟨y,H3,I3,ry,a,H4,ex,g,q3⟩=>?_) hs;subst ex;obtain rfl:u=Value.ref a:=rx;exact zc hu I3 g ry rv λs4 I4=>⟨σ,H4,I4,q3⟩
end
theorem uN{P:KP}{w:KS}{H:Hp}(h:Heap)(hb:sysModules<h.objs.size):bN P w H (h.push {cls:=.type "dict",data:=.dict #[]}) h.objs.size (.dK []):=
 ⟨J9 _,beq_eq_false_iff_ne.mpr (Ne.symm (J4 hb)),[],.nil,Heap.DictOf.new h⟩
theorem Bq{P:KP}{w:KS}{H:Hp}(h:Heap)(hb:sysModules<h.objs.size):bN P w H (h.push {cls:=.type "dict",data:=.dict #[]}) h.objs.size (.dT []):=
 ⟨J9 _,beq_eq_false_iff_ne.mpr (Ne.symm (J4 hb)),[],.nil,_,#[],0,JR _ rfl,⟨rfl,rfl,rfl⟩,rfl,rfl,List.nodup_nil⟩
def vI:TE:=λ_ H Q=>∀p,H p=none->Q (.ref p) (aC H p (.dK []))
def wj:TE:=λ_ H Q=>∀p,H p=none->Q (.ref p) (aC H p (.dT []))
section
variable {X:Cx}{pos:Pos}
theorem oz:PE X (.Dict [] [] pos) vI:=λpins s σ H Q I h=>
 wpAny_Dict_empty ⟨.ref s.heap.objs.size,_,I.laid (a:=s.heap.objs.size) (o:=.dK []) (t':=s.toks) (λ_ _ q=>JL _ q) (J8 _) (uN s.heap I.big),rfl,h _ (I.hok.fresh (J8 _))⟩
theorem AU:PE X (.Dict [] [] pos) wj:=λpins s σ H Q I h=>
 wpAny_Dict_empty ⟨.ref s.heap.objs.size,_,I.laid (a:=s.heap.objs.size) (o:=.dT []) (t':=s.toks) (λ_ _ q=>JL _ q) (J8 _) (Bq s.heap I.big),rfl,h _ (I.hok.fresh (J8 _))⟩
end
def nw:List (TE×TE)->St->Hp->(List (V×V)->Hp->Prop)->Prop
 | [],_,H,Q=>Q [] H
 | (tk,tv)::r,σ,H,Q=>tk σ H λx H1=>tv σ H1 λy H2=>nw r σ H2 λps H3=>Q ((x,y)::ps) H3
abbrev VV:List (V×V)->List (Value×Value)->Prop:=Paired λp q=>bf p.1 q.1/\bf p.2 q.2
def F_(X:Cx)(pos:Pos)(keys:List (Option Expr))(values:KW)(trs:List (TE×TE)):Prop:=
 ∀(pins:KH) (s:KJ) (σ:St) (H:Hp) (Q:List (V×V)->Hp->Prop),Inv X pins σ H s->nw trs σ H Q ->
  wpAny (model X.prog X.w) X.A (evalPairs (pairTrees keys values X.env pos)) (λvs s'=>∃ps H',Inv X pins σ H' s'/\VV ps vs/\Q ps H') X.xe s
theorem CZ{X:Cx}{pos:Pos}:F_ X pos [] [] []:=λpins s σ H Q I h=>pairTrees_nil_walk ⟨[],H,I,.nil,h⟩
theorem Ab{X:Cx}{pos:Pos}{k v:Expr}{ks:List (Option Expr)}{vs:KW}{tk tv:TE}{trs:List (TE×TE)}(hk:PE X k tk)(hv:PE X v tv)(hr:F_ X pos ks vs trs) :
  F_ X pos (some k::ks) (v::vs) ((tk,tv)::trs):=λpins s σ H Q I h=>
 pairTrees_cons_walk (bU (hk pins s σ H _ I h) λu s1 ⟨x,H1,I1,rx,q1⟩=>bU (hv pins s1 σ H1 _ I1 q1) λw2 s2 ⟨y,H2,I2,ry,q2⟩=>
  bU (hr pins s2 σ H2 _ I2 q2) λws s3 ⟨ps,H3,I3,rel,q3⟩=>⟨(x,y)::ps,H3,I3,.cons ⟨rx,ry⟩ rel,q3⟩)
def nr(kvs more:List (cC×V)):List (cC×V):=more.foldl (λacc kv=>di acc kv.1 kv.2) kvs
theorem KV.merge:∀{more:List (cC×V)} {rs:List (cC×Value)} {kvs:List (cC×V)} {vs:List (cC×Value)},KV more rs->KV kvs vs->KV (nr kvs more) (merged vs rs):=by
 intro more rs kvs vs r;unfold KV at r
 induction r generalizing kvs vs with
 |nil=>intro q;exact q
 | @cons p q ps qs h t ih=>
  intro r0;have e:KV (di kvs p.1 p.2) (stored vs q.1 q.2):=by
   have:=r0.put p.1 h.2;rw[<- h.1];exact this
  exact ih e
theorem jn:∀(more kvs:List (cC×V)),(nr kvs more).length<=kvs.length+more.length
 | [],kvs=>by show kvs.length<=kvs.length+0;omega
 |p::r,kvs=>by
  have h1:=jn r (di kvs p.1 p.2);have h2:=fP kvs p.1 p.2;show(nr (di kvs p.1 p.2) r).length<=_;rw[JW];omega
theorem oF{P:KP}{w:KS}:∀{kvs:List (cC×V)} {ws:List (Value×Value)},VV (kvs.map λkv=>(kV kv.1,kv.2)) ws->∃rs,Carries (bM P w) ws rs/\KV kvs rs
 | [],_,r=>by rw[List.map_nil]at r;cases r;exact⟨[],True.intro,.nil⟩
 |p::kvs,_,r=>by
  rw[Kc]at r;cases r with
  | @cons a b as bs h t=>
   obtain⟨rs,c,q⟩:=oF (P:=P) (w:=w) t;obtain⟨b1,b2⟩:=b;exact⟨(p.1,b2)::rs,⟨l9 h.1,rfl,c⟩,.cons ⟨rfl,h.2⟩ q⟩
def BP(trs:List (TE×TE)):TE:=λσ H Q=>∀p,H p=none->nw trs σ (aC H p (.dK [])) λps H2=>H2 p=some (.dK [])/\∃kvs:List (cC×V),ps=kvs.map (λkv=>(kV kv.1,kv.2))/\kvs.length<=15/\Q (.ref p) (aC H2 p (.dK (nr [] kvs)))
theorem C9{X:Cx}{pos:Pos}{keys:List (Option Expr)}{values:KW}{trs:List (TE×TE)}(h:F_ X pos keys values trs)(hall:keys.all (·.isSome)=true)(hl:keys.length=values.length)(h0:keys≠[])
  (h15:keys.length<=15):PE X (.Dict keys values pos) (BP trs):=by
 intro pins s σ H Q I q;have hn:=I.hok.fresh (J8 s.heap.objs.size);have I1:=I.laid (a:=s.heap.objs.size) (o:=.dK []) (h':=s.heap.push {cls:=.type "dict",data:=.dict #[]}) (t':=s.toks) (λ_ _ q=>JL _ q) (J8 _) (uN s.heap I.big);refine wpAny_Dict_walk (knd:=bM X.prog X.w) hall hl h0 h15 (bU (h pins _ σ _ _ I1 (q _ hn)) λws s2 ⟨ps,H2,I2,rel,e,kvs,ep,lk,q2⟩=>?_);subst ep;obtain⟨rs,c,rk⟩:=oF (P:=X.prog) (w:=X.w) rel;obtain⟨z,hd,vs0,r0,dd⟩:=ql I2.hok e;cases r0;refine⟨rs,c,dd,λh' dd' hs=>⟨.ref s.heap.objs.size,_,?_,rfl,q2⟩⟩;have hz:(nr [] kvs).length<=sizeLine:=by
  have h1:=jn kvs [];rw[List.length_nil]at h1;rw[sizeLine_eq];omega
 have he:∃q,h'.get? s.heap.objs.size=some q:=let ⟨q,_,_,hq,_⟩:=dd';⟨q,hq⟩
 exact mP I2 (by rw[e];exact True.intro) hs he (wz hz hd (rk.merge .nil) dd')
structure M1(X:Cx)(o:Expr)(m:Str)(apos:Pos)(e:Expr)(cpos:Pos):Prop where
 base:attributeBase o m X.env (eval o X.env)=eval o X.env
 few:((backTo cpos (starEach [e] X.env)).all (λx=>!x.1)&&(backToKw cpos (keywordEach [] X.env)).all (λx=>x.1.isSome)
  && decide (([e]:List Expr).length+([]:List Keyword).length+(if([]:List Keyword).isEmpty then 0 else 1)<30))=true
 line:(apos.endLine==cpos.line)=true
 trees:backTo cpos (starEach [e] X.env)=[(false,eval e X.env)]
structure M2(X:Cx)(o:Expr)(m:Str)(apos:Pos)(e f:Expr)(cpos:Pos):Prop where
 base:attributeBase o m X.env (eval o X.env)=eval o X.env
 few:((backTo cpos (starEach [e,f] X.env)).all (λx=>!x.1)&&(backToKw cpos (keywordEach [] X.env)).all (λx=>x.1.isSome)
  && decide (([e,f]:List Expr).length+([]:List Keyword).length+(if([]:List Keyword).isEmpty then 0 else 1)<30))=true
 line:(apos.endLine==cpos.line)=true
 trees:backTo cpos (starEach [e,f] X.env)=[(false,eval e X.env),(false,eval f X.env)]
def Gc(H:Hp)(a:Addr):Prop:=(∃kvs,Rd H a (.dK kvs))\/∃kvs,Rd H a (.dT kvs)
theorem wG{X:Cx}{pins:KH}{σ:St}{H:Hp}{s:KJ}{a:Addr}(I:Inv X pins σ H s)(d:Gc H a) :
  s.TypeIs (.ref a) "dict"/\(∀b,Value.ref a=.ref b->∃ob,s.heap.get? b=some ob/\ob.dict=none)/\(a==sysModules)=false:=by
 rcases d with⟨kvs,e⟩ | ⟨kvs,e⟩
 ·obtain⟨_,hd,vs,_,dd⟩:=lW I.hok e
  refine⟨dd.typeIs,λb q=>?_,hd⟩;cases q;obtain⟨ob,_,_,h1,h2,_⟩:=dd;exact⟨ob,h1,h2.2.1⟩
 ·obtain⟨_,hd,xs,_,dd⟩:=ol I.hok e
  refine⟨dd.typeIs,λb q=>?_,hd⟩;cases q;obtain⟨ob,_,_,h1,h2,_⟩:=dd;exact⟨ob,h1,h2.2.1⟩
section
variable {X:Cx}{pins:KH}{σ:St}{H:Hp}{s:KJ}{a:Addr}{y d:V}{u r:Value}{o:Option V}{A:KR}{E:KF}
theorem ED{Q:KF}(hu:A.units+1<cLine)(I:Inv X pins σ H s)(g:kD H a y o)(ry:bf y u)(h:∀w' s',Inv X pins σ H s'->bf (o.getD .non) w'->Q w' s') :
  wpAny (model X.prog X.w) A (call (.builtin "dict.get") [.ref a,u]) Q E s:=by
 rcases g with⟨kvs,k,e,ey,l⟩ | ⟨kvs,k,b,e,ey,eb,l⟩
 ·subst ey
  obtain⟨z,hd,vs,rel,dd⟩:=lW I.hok e;refine call_meetsIn PySem.F.slot_dict_get dd.typeIs PySem.F.entry_dict_get (PySem.F.args_dict_get_2 _ _) (meets_dict_get (bM X.prog X.w) a (l9 ry) hd) ⟨_,dd.mapOf,h _ _ (I.tok _) ?_⟩;rw[l];exact(rel.val k).getD rfl
 ·subst ey
  cases(show u=Value.ref b from ry);obtain⟨z,hd,xs,rel,dd⟩:=ol I.hok e;refine call_meetsIn PySem.F.slot_dict_get dd.typeIs PySem.F.entry_dict_get (PySem.F.args_dict_get_2 _ _) (meetsH_dict_get (tupleKind (bM X.prog X.w)) a b hd) ⟨tupleKind_room_in1 hu,k,xs,kN I.hok eb,dd,h _ _ (I.tok _) ?_⟩;rw[l];exact(rel.val k).getD rfl
end
def wv(td ty:TE):TE:=λσ H Q=>td σ H λx H1=>∃a,x=.ref a/\Gc H1 a/\ty σ H1 λy H2=>∃o,kD H2 a y o/\Q (o.getD .non) H2
section
variable {X:Cx}{o e f:Expr}{apos cpos:Pos}{td ty tx:TE}
theorem vb(hu:X.A.units+1<cLine)(ho:PE X o td)(he:PE X e ty)(m:M1 X o "get" apos e cpos):PE X (.Call (.Attribute o "get" apos) [e] [] cpos) (wv td ty):=by
 intro pins s σ H Q I h;refine wpAny_Call_method m.base m.few m.line PySem.F.plainAttrs_dict PySem.F.slot_dict_get PySem.F.type_dict_get (bU (ho pins s σ H _ I h) λu s1 ⟨x,H1,I1,rx,a,ex,d,q1⟩=>?_);subst ex;obtain rfl:u=Value.ref a:=rx;obtain⟨t1,t2,_⟩:=wG I1 d;refine⟨t1,t2,?_⟩;rw[m.trees];refine Calls.callWith_builtin rfl (Calls.evalArgs_plain (Calls.spliced_cons (bU (he pins s1 σ H1 _ I1 q1) λiv s2 ⟨y,H2,I2,ry,ov,g,q2⟩=>Calls.spliced_nil ?_)));exact ED hu I2 g ry λw' s3 I3 rw'=>⟨_,H2,I3,rw',q2⟩
end
end L2
namespace Att
open PySem PySem.W PySem.Calls PyProof.Rows
theorem mh{P:Params}{h:Heap}:∀(ns:List Int) (vs:KL),WellAll P h vs (ns.map WData.int)->IntsAre vs ns:=by
 intro ns
 induction ns with
 |nil=>
  intro vs w;rw[List.map_nil]at w;cases w;exact .nil
 |cons n ns ih=>
  intro vs w;rw[Kc]at w;cases w with
  |cons a b=>
   cases a;exact .cons _ _ (ih _ b)
theorem yG{l:OpenLaw}{n:Nat}(hn:l.most=some n){P:Params}{h:Heap}{args:List WData}{vals:KL}
  (hpre:l.row.toRowW.claim.pre args=true) (hwl:WellAll P h vals args) :
  ∃a vs ns,vals=[Value.ref a]/\args=[WData.list (ns.map WData.int)]/\h.get? a=some {cls:=.type "list",data:=.seq vs.toArray}/\IntsAre vs ns/\ns.length<=n:=by
 have hsh:WShape.hasAll [] args [.list .int]=true:=(pre_splitW hpre).1;have hc:l.pre.holds [] {args:=args}=true:=(pre_splitW hpre).2;obtain⟨d,r,rfl,h1,h2⟩:=hasAllW_cons hsh;obtain rfl:=hasAllW_nil h2;obtain⟨xs,rfl,h3⟩:=hasW_list h1;obtain⟨ns,rfl⟩:=items_int h3;have hlen:ns.length<=n:=by
  unfold OpenLaw.pre at hc;have h4:(WTm.not (.lt (.lit (.int (n:Int))) (.len (.arg 0)))).holds [] {args:=[.list (ns.map .int)]}=true:=by
   have h4:=(holds_andW hc).1;rw[hn]at h4;exact h4
  have h5:=condW_of h4 (w_not (w_lt w_lit (w_len_list (w_arg rfl))));rw[JM]at h5;refine Nat.le_of_not_lt λq=>?_;have q':(n:Int)<((ns.length:Nat):Int):=by omega
  first
   | (rw[decide_eq_true q']at h5;exact absurd h5 nofun)
   | (simp at h5;omega)
 cases hwl with
 |cons w1 w2=>
  cases w2;cases w1 with
  |list ho hall=>exact⟨_,_,ns,rfl,rfl,ho,mh ns _ hall,hlen⟩
theorem ze(l:OpenLaw)(args:List WData):l.row.toRowW.claim.post args (.bool true) args=true:=
 postW_of (r:=l.row.toRowW) (X:=(true==true))
  (show WShape.has [] (.bool true) .bool=true by first | rfl | decide | simp[WShape.has,WShape.arms,WShape.armsAll])
  (show(WTm.eq .res (.lit (.bool true))).value [] {args:=args,res:=some (.bool true),after:=args}=some (.bool (true==true)) from w_eq_bool (w_res rfl) w_lit) rfl
theorem attach_call{l:OpenLaw}{n:Nat}{q:KP}{loose:KQ}{XP:(Str->Option Value)->Heap->Prop}{YP:World->Heap->Prop}{d:DefRec}
  (hn:l.most=some n) (hdf:d.params.defaults=[])
  (call:∀(w:KS) (s₀ s₁:KJ) (mg mb:KN) (fa:Addr) (o:Obj) (pm cd doc:Value) (a:Addr) (vs:KL) (ns:List Int),
   Ground q loose [] XP w s₀ mg mb s₁.heap->YP w s₁.heap ->
   s₁.heap.get? fa=some o->o.data=.func (docDef d.name d.params d.body d.scope pm cd doc)->s₁.heap.CodeRec cd d.name->mg d.name=some (.ref fa) ->
   s₁.heap.get? a=some {cls:=.type "list",data:=.seq vs.toArray}->IntsAre vs ns->ns.length<=n->s₁.gens=#[] ->
   codeAny (model l.prog w) callerA (.call (.ref fa) ⟨[.ref a],[]⟩) (λr s'=>r=.ok (.ret (.bool true))/\OldK s₁.heap s'.heap/\s'.os=s₁.os/\AllBare s'.gens) s₁) :
  WalkO q loose XP YP l.row.toRowW d [] (λf vs=>PySem.call f vs):=by
 intro w s₀ s₁ mg mb G Y fa o pm cd doc dV kV ho hd hcd hD hmg hg args vals as hpre hlay hrd hwl hlo;obtain rfl:dV=.none:=Dflts.none hD hdf;obtain rfl:kV=.none:=Dflts.noKw hD;obtain⟨a,vs,ns,rfl,rfl,hobj,hints,hlen⟩:=yG hn hpre hwl;refine enter_call (codeAny_mono (call w s₀ s₁ mg mb fa o pm cd doc a vs ns G Y ho (fd_plain hd) hcd hmg hobj hints hlen hg) λr s' hq=>?_);obtain⟨rfl,h2,h3,h4⟩:=hq;exact⟨.inl ⟨.bool true,.bool true,[],rfl,λ_=>rfl,.bool true,ze l _,λ_=>⟨List.Pairwise.nil,λ_ hm=>(nomatch hm)⟩⟩,h2,h3,h4⟩
section
variable {prog:KP}{w:KS}{A:KR}{E:KF}{s:KJ}{K:Frag}
def Gu(h:Heap)(L d:Addr):List (Addr×Obj):=(List.range h.objs.size).filterMap λa=>if a=L\/a=d then none else(h.get? a).map λo=>(a,o)
end
end Att
namespace L2
open PySem PySem.Spec PyProof.Rows
theorem qL:∀{vs:KL} {ns:List Int},IntsAre vs ns->aW (ns.map V.int) vs
 |_,_,.nil=>.nil
 |_,_,.cons n t h=>.cons ⟨t,rfl⟩ (qL h)
def E7(H:Hp):Prop:=∀b,H b=none\/∃o xs,H b=some (.frz o (.lst xs))
theorem A3{P:KP}{w:KS}{K:KG}{mg mb:KN}{CX:ir}{k:Nat}{fa a:Addr}{fd:KO}{x:Str}{sp:Sp}{s₁:KJ}{vs:KL}{ns:List Int}
  (KX:K.In s₁.heap) (hns:s₁.heap.Ns mainGlobals mg) (hb:s₁.heap.Ns builtinsNs mb) (hbb:∀x:Str,x≠"__name__"->mb x=bootBuiltins x) (hlim:s₁.heap.NoLimit) (hg:s₁.gens=#[])
  (ha:s₁.heap.get? a=some {cls:=.type "list",data:=.seq vs.toArray}) (hi:IntsAre vs ns) (hl:ns.length<=sizeLine) (hr:cw k callerA)
  (F:∀base:Heap,K.In base->base.Ns mainGlobals mg->aR P w K mg base CX k fa fd [x] sp) (hbind:∀(s:KJ) (u:Value),BindsTo s fd ⟨[u],[]⟩ [(x,u)])
  (hsp:∀H:Hp,E7 H->aQ K H a (ns.map V.int)->sp [.ref a] H (λv _=>v=.bl true) λ_ _ _=>False)
  (hCX:∀H e s',CX [] H s₁ (λ_ _ _=>False) e s'->False) :
  codeAny (model P w) callerA (.call (.ref fa) ⟨[.ref a],[]⟩) (λr s'=>r=.ok (.ret (.bool true))/\OldK s₁.heap s'.heap/\s'.os=s₁.os/\AllBare s'.gens) s₁:=by
 have rv:=qL hi;have lenV:=hi.length
 -- from an abstract heap in which nothing but the script may be tracked
 have core:∀H:Hp,E7 H->aQ K H a (ns.map V.int)->je P w H s₁.heap->(∀b,H b≠none->b=a)->(H a≠none->K.lookup a=none) ->
   codeAny (model P w) callerA (.call (.ref fa) ⟨[.ref a],[]⟩) (λr s'=>r=.ok (.ret (.bool true))/\OldK s₁.heap s'.heap/\s'.os=s₁.os/\AllBare s'.gens) s₁:=by
  intro H hO hS hok hA hK;have base_of:∀{b:Addr} {o:Obj},s₁.heap.get? b=some o->H b=none->(sR s₁.heap H).get? b=some o:=λe n=>AS e n;have noA:∀{b:Addr} {o:Obj} {es:Array DictEntry} {ep:Nat},s₁.heap.get? b=some o->o.data=.dict es ep->H b=none:=fun{b o es ep} e d=>by
   cases q:H b with
   |none=>rfl
   |some u=>
    have e':b=a:=hA b (by rw[q];simp);subst e';rw[ha]at e;cases e
    have d':Data.seq vs.toArray _=Data.dict es ep:=d;cases d'
  have nsK:∀{b:Addr} {m:KN},s₁.heap.Ns b m->(sR s₁.heap H).Ns b m:=fun{b m} ⟨o,es,ep,e,d,r⟩=>⟨o,es,ep,base_of e (noA e d),d,r⟩;have hKb:K.In (sR s₁.heap H):=λb o e=>base_of (KX b o e) (by
   cases q:H b with
   |none=>rfl
   |some u=>
    have e':b=a:=hA b (by rw[q];simp);subst e';rw[hK (by rw[q];simp)]at e;cases e)
  have hM:Mod K mg (sR s₁.heap H):=⟨hKb,nsK hns,⟨mb,nsK hb,hbb⟩,let ⟨mc,h1,h2⟩:=hlim;⟨mc,nsK h1,h2⟩⟩;have e0:nn P w K mg (sR s₁.heap H) callerA [] s₁ H:=⟨rfl,hM,λb o e=>Dc e,Nat.le_of_eq (zy _ _),trivial,λb hb=>absurd (show b∈([]:List Addr) from hb) (by simp),hok,.of_eq hg⟩;refine codeAny_mono ((F _ hKb (nsK hns)).run callerA [] s₁ H ⟨[.ref a],[]⟩ [.ref a] [.ref a] _ _ hr e0 (hbind s₁ (.ref a)) (.cons rfl .nil) (hsp H hO hS)) λr s' h=>?_;cases r with
  |error e=>exact(hCX H e s' h).elim
  |ok fl=>
   cases fl with
   |next=>exact False.elim h
   |brk=>exact False.elim h
   |cont=>exact False.elim h
   |ret u=>
    obtain⟨v,H',os,bare,un,hok',r',q⟩:=h;have q':v=.bl true:=q;subst q';obtain rfl:u=Value.bool true:=r';refine⟨rfl,OldK.of_keep λb o e=>?_,os,bare⟩;cases q:H b with
    |none=>exact un.keep b o e q (by intro z;exact absurd (show b∈([]:List Addr) from z) (by simp)) (by simp)
    |some u=>
     rcases hO b with z | ⟨ob,xs,z⟩
     ·rw[q]at z;cases z
     ·have z2:=un.frzs b ob _ z
      obtain⟨e1,_⟩:=hok b _ z;obtain⟨e2,_⟩:=hok' b _ z2;rw[e]at e1;cases e1
      exact e2
 cases hk:K.lookup a with
 |some o=>
  -- the script is one of the module's own objects
  have e:=KX a o hk;rw[ha]at e;cases e;refine core (λ_=>none) (λ_=>.inl rfl) (.inr ⟨_,vs.toArray,_,hk,rfl,rfl,rfl,by rw[JS,lenV];exact hl,by simpa using rv⟩) (λb u z=>by have z':(none:Option HO)=some u:=z;cases z') (λb z=>absurd rfl z) λz=>absurd rfl z
 |none=>
  refine core (λb=>if b=a then some (.frz {cls:=.type "list",data:=.seq vs.toArray} (.lst (ns.map V.int))) else none) (λb=>?_) (.inl (.inr ⟨{cls:=.type "list",data:=.seq vs.toArray},if_pos rfl⟩)) (λb u z=>?_) (λb z=>?_) λ_=>hk
  ·by_cases hb:b=a
   ·exact .inr ⟨_,_,if_pos hb⟩
   ·exact .inl (if_neg hb)
  ·by_cases hb:b=a
   ·have z':=(if_pos hb).symm.trans z
    cases z';subst hb;exact⟨ha,by rw[JM];exact hl,vs,_,rv,ha⟩
   ·have z':=(if_neg hb).symm.trans z
    cases z'
  ·by_cases hb:b=a
   ·exact hb
   ·exact absurd (if_neg hb) z
theorem walk_of{l:PySem.W.OpenLaw}{n k:Nat}{q:KP}{loose:KQ}{XP:(Str->Option Value)->Heap->Prop}{YP:World->Heap->Prop}{d:DefRec}{K:Params->PySem.W.Frag}{CX:World->ir}{sp:World->Sp}{x:Str}
  (hn:l.most=some n) (hn2:n<=sizeLine) (hdf:d.params.defaults=[]) (hr:cw k callerA)
  (hY:∀(w:KS) (h:Heap),YP w h->(K w.params).In h)
  (F:∀(w:KS) (mg:KN) (fa:Addr) (h:Heap),(K w.params).In h->h.Ns mainGlobals mg->mg d.name=some (.ref fa) ->
   ∃fd:FuncData,(∀(s:KJ) (u:Value),BindsTo s fd ⟨[u],[]⟩ [(x,u)]) /\
    ∀base:Heap,(K w.params).In base->base.Ns mainGlobals mg->aR l.prog w (K w.params) mg base (CX w) k fa fd [x] (sp w))
  (hsp:∀(w:KS) (H:Hp) (a:Addr) (ns:List Int),ns.length<=n->E7 H->aQ (K w.params) H a (ns.map V.int)->sp w [.ref a] H (λv _=>v=.bl true) λ_ _ _=>False)
  (hCX:∀(w:KS) (H:Hp) (s:KJ) (e:Value) (s':KJ),CX w [] H s (λ_ _ _=>False) e s'->False) :
  PySem.W.WalkO q loose XP YP l.row.toRowW d [] (λf vs=>PySem.call f vs):=by
 refine Att.attach_call hn hdf λw s₀ s₁ mg mb fa o pm cd doc a vs ns G Y ho hd hcd hmg hobj hints hlen hg=>?_;have KX:=hY w _ Y;obtain⟨fd,hb,hF⟩:=F w mg fa _ KX G.T.g hmg;exact A3 KX G.T.g G.T.b G.T.builtins G.T.nolimit hg hobj hints (Kd hlen hn2) hr hF hb (λH hO hS=>hsp w H a ns hlen hO hS) λH e s'=>hCX w H s₁ e s'
def cF(s:Stmt):Arguments:=match s with
 | .FunctionDef _ a _ _ _ _ _ _ _ _=>a
 |_=>{posonlyargs:=[],args:=[],vararg:=none,kwonlyargs:=[],kw_defaults:=[],kwarg:=none,defaults:=[]}
def b9(s:Stmt):List Stmt:=match s with
 | .FunctionDef _ _ b _ _ _ _ _ _ _=>b
 |_=>[]
def ak(s:Stmt):Scope:=match s with
 | .FunctionDef _ _ _ _ _ _ sc _ _ _=>sc
 |_=>{kind:=.function,names:=[],isGenerator:=false,isCoroutine:=false}
abbrev bB:ir:=λ_ _ _ _ _ _=>False
abbrev E0:XK:=λ_ _ _=>False
theorem aM{X:Cx}:cJ bB X E0:=λ_ _ _ _ _ _ _ h=>h.elim
structure dw(K:KG)(x qual:Str)(st:Stmt)(f:Addr)(fd:KO):Prop where
 ex:∃(oc:Value) (od:KU) (kV doc pm:Value) (an:KU) (cdv ct:Value) (osl:Array (Option Value)),
  fd=PySem.W.fnOf x qual (cF st) (b9 st) (ak st) .none kV doc pm an cdv ct/\K.lookup f=some ⟨oc,od,.func fd,osl⟩/\PySem.W.codeIn K cdv qual=true
 kp:PySem.W.keepIn K (.ref f)=true
section
variable {P:KP}{w:KS}{K:KG}{mg:KN}{base:Heap}
theorem dw.ok{x qual:Str}{st:Stmt}{f:Addr}{fd:KO}{N ps:KQ}{k:Nat}{sp:Sp}(F:dw K x qual st f fd)(S:aB N ps (ak st))(len:∀vs H Q E,sp vs H Q E->vs.length=ps.length)
  (hbody:∀(cdv:Value) (A:KR) (outer:List Env) (s:KJ) (H:Hp) (vs:List V) (Q:VK) (E:XK),cw k (A.deeper (envOfC qual (ak st) s.heap.objs.size f cdv))->sp vs H Q E ->
   ∃t,ud (eZ bB P w K mg base N qual (ak st) f cdv A outer s H E).nox (b9 st) t/\t {nx:=λ_ H'=>Q .non H',rt:=Q} (start N vs) H):aR P w K mg base bB (k+1) f fd ps sp:=by
 obtain⟨oc,od,kV,doc,pm,an,cdv,ct,osl,rfl,lk,hcd⟩:=F.ex;refine zZ lk hcd S len λA outer s H vs Q E hr hsp=>?_;obtain⟨t,h,q⟩:=hbody cdv A outer s H vs Q E hr hsp;exact⟨t,h.nox,q⟩
theorem dw.binds{x qual:Str}{st:Stmt}{f:Addr}{fd:KO}{ps:KQ}(F:dw K x qual st f fd)
  (h:∀(kV doc pm:Value) (an:KU) (cdv ct:Value) (us:KL),us.length=ps.length->bindArgs (PySem.W.fnOf x qual (cF st) (b9 st) (ak st) .none kV doc pm an cdv ct) ⟨us,[]⟩=pure (ps.zip us)):dF K fd ps []:=by
 obtain⟨oc,od,kV,doc,pm,an,cdv,ct,osl,rfl,lk,hcd⟩:=F.ex;exact .all (h kV doc pm an cdv ct)
theorem cz{x qual:Str}{st:Stmt}{f:Addr}{oc:Value}{od an:KU}{osl:Array (Option Value)}{kV doc pm cdv ct:Value}(l:K.lookup f=some ⟨oc,od,.func (PySem.W.fnOf x qual (cF st) (b9 st) (ak st) .none kV doc pm an cdv ct),osl⟩)
  (c:PySem.W.codeIn K cdv qual=true) (k:PySem.W.keepIn K (.ref f)=true):dw K x qual st f (PySem.W.fnOf x qual (cF st) (b9 st) (ak st) .none kV doc pm an cdv ct):=⟨⟨oc,od,kV,doc,pm,an,cdv,ct,osl,rfl,l,c⟩,k⟩
end
section
variable {X:Cx}
theorem pv(i:Nat){x:Str}{pos:Pos}(hN:autoParam (X.N[i]?=some x) zz0._auto_1)(hv:autoParam (Gg X.env.scope x) zz5._auto_1)(hd:autoParam ((x==("__debug__":Str))=false) zz1._auto_1)
  (hcd:autoParam ((x==("__classdict__":Str))=false) zz1._auto_1):PE X (.Name x pos) (Aq i):=D8 hN hv hd hcd
theorem qA:g8 X (.builtin "len") (λxs H Q=>∃a kvs,xs=[V.ref a]/\H a=some (.dK kvs)/\Q (.int kvs.length) H):=by
 intro pins s σ H xs us Q I r h;obtain⟨a,kvs,rfl,ha,q⟩:=h;obtain⟨u,rfl,ru⟩:=vf r;cases ru;exact Fw I (.inl ha) λt s' I'=>⟨.int kvs.length,H,I',⟨t,rfl⟩,q⟩
end
def aD(H H':Hp):Prop:=∀b o,H b=some o->H' b=some o
theorem aD.refl(H:Hp):aD H H:=λ_ _ h=>h
theorem aD.trans{H H1 H2:Hp}(a:aD H H1)(b:aD H1 H2):aD H H2:=λc o h=>b c o (a c o h)
theorem aD.free{H H':Hp}(e:aD H H'){l:Addr}(h:H' l=Option.none):H l=Option.none:=by
 cases q:H l with
 |none=>rfl
 |some o=>
  rw[e l o q]at h;cases h
theorem aD.seq{K:KG}{H H':Hp}{a:Addr}{xs:List V}(e:aD H H')(h:aQ K H a xs):aQ K H' a xs:=by
 rcases h with(h | ⟨o,h⟩) | h
 ·exact .inl (.inl (e _ _ h))
 ·exact .inl (.inr ⟨o,e _ _ h⟩)
 ·exact .inr h
section
variable {κ:Type}[DecidableEq κ]
theorem BA{kvs:List (κ×V)}{k:κ}(h:cQ kvs k=none):¬ k∈kvs.map (·.1):=by
 intro m;obtain⟨p,hp,e⟩:=Kt.mp m;have q:(kvs.any λkv=>decide (kv.1=k))=true:=List.any_eq_true.mpr ⟨p,hp,decide_eq_true e⟩;rw[gn,h]at q;exact absurd q (by simp)
end
end L2
namespace PySem
open Sem (wp)
open Builtin Builtin.Str Builtin.Int
namespace F
theorem lM:Manifest.owners.lookup "reversed"=some Manifest.sig_reversed:=by kernel_rfl
theorem slot_rvs_next:Slot "reversed" "__next__" "reversed.__next__":=
 .of (owner:="reversed") (n:="__next__") (by rw[typeLookup_type,builtinLookup_eq_fast];kernel_rfl) (by decide +kernel) (by decide +kernel) (by decide +kernel)
  (by first | exact .inl (by decide +kernel) | exact .inr (by decide +kernel)) (by rw[isSubtype_type];kernel_rfl)
theorem entry_rvs_next:entryFor table "reversed.__next__"=some Builtin.«reversed.__next__»:=entryFor_of_tree (by kernel_rfl)
theorem slot_rvs_iter:Slot "reversed" "__iter__" "reversed.__iter__":=
 .of (owner:="reversed") (n:="__iter__") (by rw[typeLookup_type,builtinLookup_eq_fast];kernel_rfl) (by decide +kernel) (by decide +kernel) (by decide +kernel)
  (by first | exact .inl (by decide +kernel) | exact .inr (by decide +kernel)) (by rw[isSubtype_type];kernel_rfl)
theorem nolen_rvs:typeLookup (.type "reversed") "__len__"=pure none:=by rw[typeLookup_type,builtinLookup_eq_fast];kernel_rfl
theorem hint_rvs:typeLookup (.type "reversed") "__length_hint__"=pure (some (.builtin "reversed.__length_hint__")):=by rw[typeLookup_type,builtinLookup_eq_fast];kernel_rfl
theorem args_rvs_next_1(a:Value):argsOk "reversed.__next__" ⟨[a],[]⟩:=by
 unfold argsOk;rw[signature?_of (id:="reversed.__next__") (n:=['_','_','t','x','e','n','_','_']) (o:=['d','e','s','r','e','v','e','r']) (by kernel_rfl) lM];kernel_rfl
theorem args_rvs_iter_1(a:Value):argsOk "reversed.__iter__" ⟨[a],[]⟩:=by
 unfold argsOk;rw[signature?_of (id:="reversed.__iter__") (n:=['_','_','r','e','t','i','_','_']) (o:=['d','e','s','r','e','v','e','r']) (by kernel_rfl) lM];kernel_rfl
theorem entry_rvs_iter:entryFor table "reversed.__iter__"=some Builtin.«dict_keyiterator.__iter__»:=
 entryFor_alias (id':="dict_keyiterator.__iter__") (by kernel_rfl) (by first | rfl | decide +kernel | (unfold String.splitOn;simp +decide [String.splitOnAux])) (by decide +kernel) (by kernel_rfl)
theorem slot_rvs_hint:Slot "reversed" "__length_hint__" "reversed.__length_hint__":=
 .of (owner:="reversed") (n:="__length_hint__") (by rw[typeLookup_type,builtinLookup_eq_fast];kernel_rfl) (by decide +kernel) (by decide +kernel) (by decide +kernel)
  (by first | exact .inl (by decide +kernel) | exact .inr (by decide +kernel)) (by rw[isSubtype_type];kernel_rfl)
theorem entry_rvs_hint:entryFor table "reversed.__length_hint__"=some Builtin.«reversed.__length_hint__»:=entryFor_of_tree (by kernel_rfl)
theorem args_rvs_hint_1(a:Value):argsOk "reversed.__length_hint__" ⟨[a],[]⟩:=by
 unfold argsOk;rw[signature?_of (id:="reversed.__length_hint__") (n:=['_','_','t','n','i','h','_','h','t','g','n','e','l','_','_']) (o:=['d','e','s','r','e','v','e','r']) (by kernel_rfl) lM];kernel_rfl
end F
section
variable {prog:KP}{w:KS}{A:KR}{E:KF}{s:KJ}
def vB(x:Str)(t:Tok)(i:Int):Obj:={cls:=.type "reversed",data:=.fields #[.str x t,rawInt i]}
def Heap.IsRvs(h:Heap)(a:Addr)(x:Str)(t:Tok)(i:Int):Prop:=∃o,h.get? a=some o/\o.cls=.type "reversed"/\o.data=.fields #[.str x t,rawInt i]
theorem Heap.IsRvs.typeIs{a:Addr}{x:Str}{t:Tok}{i:Int}(y:s.heap.IsRvs a x t i):s.TypeIs (.ref a) "reversed":=let ⟨o,ho,hc,_⟩:=y;⟨o,ho,hc⟩
theorem Heap.IsRvs.at{h h':Heap}{a:Addr}{x:Str}{t:Tok}{i:Int}(y:h.IsRvs a x t i)(e:∀o,h.get? a=some o->h'.get? a=some o):h'.IsRvs a x t i:=let ⟨o,ho,r⟩:=y;⟨o,e _ ho,r⟩
theorem ic{it:Addr}{x:Str}{t:Tok}{i c:Nat}{Q:Option Value->Shared->Prop}(hit:s.heap.IsRvs it x t (i:Int))(hx:x.cps[i]?=some c)(hsz:i<2 ^ 63)
  (hQ:∀h' tk tk',h'.IsRvs it x t ((i:Int)-1)->Heap.SameBut it s.heap h'->Q (some (.str ⟨#[c]⟩ tk)) {s with heap:=h',toks:=tk' }):wpAny (model prog w) A (pyNext (.ref it)) Q E s:=by
 obtain⟨o,ho,hc,hd⟩:=id hit;have hlen:i<x.length:=(Array.getElem?_eq_some_iff.mp hx).1;unfold pyNext;refine wpAny_bind (wpAny_attempt (wpAny_callSpecial?_slot (name:=Str.ofString "__next__") hit.typeIs F.slot_rvs_next
  (wpAny_call_entry F.slot_rvs_next hit.typeIs F.entry_rvs_next ?_ (F.args_rvs_next_1 _))))
 unfold Builtin.«reversed.__next__»;refine wpAny_bind (wpAny_of_eq (a:=(Value.ref it,[])) rfl ?_)
 try dsimp only
 refine wpAny_bind (wpAny_field ho hd (x:=.str x t) rfl ?_);refine wpAny_bind (wpAny_field ho hd (x:=rawInt (i:Int)) rfl ?_);show wpAny _ _ (if(i:Int)<0 then _ else _) _ _ s;rw[if_neg ⋯];refine wpAny_bind (wpAny_specialOf (typeIs_str s x t) F.slot_str_getitem.lookup ?_)
 try dsimp only
 first
 |rw[if_neg (show ¬ ((some (Value.builtin "str.__getitem__")).isNone=true) from J_)]
 |skip
 refine wpAny_bind (wpAny_mkInt ?_);refine wpAny_bind (wpAny_attempt ?_);have hb:(seqIndex? (i:Int) x.length).bind (x.cps[·]?)=some c:=by
  have e:seqIndex? (i:Int) x.length=some i:=by
   have hn:¬ ((i:Int)<0):=by omega
   unfold seqIndex?;simp[hn,hlen]
  rw[e];exact hx
 refine P.getItem_str (c:=c) (by simp;omega) hb ?_;dsimp only;refine wpAny_bind (wpAny_field ho hd (x:=rawInt (i:Int)) rfl ?_);show wpAny _ _ (setField (Value.ref it) 1 (rawInt ((i:Int)-1)) >>= λ_=>ret (Value.str ⟨#[c]⟩ _)) _ _ _;refine wpAny_bind (wpAny_setField ho hd (by simp) ?_);refine wpAny_pure ⟨_,rfl,wpAny_pure (hQ _ _ _ ?_ (Heap.SameBut.update ..))⟩;exact⟨_,JV _ ho (Obj.isFreed_of_fields (Obj.data_mapFields hd _)),(Obj.cls_mapFields ..).trans hc,by
  rw[Obj.data_mapFields hd];simp⟩
theorem iN{it:Addr}{x:Str}{t:Tok}{Q:Option Value->Shared->Prop}(hh:A.handled=none)(hit:s.heap.IsRvs it x t (-1))
  (hQ:∀h',Heap.ExtBut it s.heap h'->Q none {s with heap:=h' }):wpAny (model prog w) A (pyNext (.ref it)) Q E s:=by
 obtain⟨o,ho,hc,hd⟩:=id hit;unfold pyNext;refine wpAny_bind (wpAny_attempt (wpAny_callSpecial?_slot (name:=Str.ofString "__next__") hit.typeIs F.slot_rvs_next
  (wpAny_call_entry F.slot_rvs_next hit.typeIs F.entry_rvs_next ?_ (F.args_rvs_next_1 _))))
 unfold Builtin.«reversed.__next__»;refine wpAny_bind (wpAny_of_eq (a:=(Value.ref it,[])) rfl ?_)
 try dsimp only
 refine wpAny_bind (wpAny_field ho hd (x:=.str x t) rfl ?_);refine wpAny_bind (wpAny_field ho hd (x:=rawInt (-1)) rfl ?_);show wpAny _ _ (if(-1:Int)<0 then _ else _) _ _ s;rw[if_pos nofun];refine wpAny_bind (wpAny_rule ?_);show wpAny _ _ ((setField (Value.ref it) 1 (rawInt (-1)) >>= λ_=>setField (Value.ref it) 0 .none) >>= _) _ _ _;refine wpAny_bind (wpAny_bind (wpAny_setField ho hd (by simp) ?_));have ho1:=JV (Obj.mapFields (·.setIfInBounds 1 (rawInt (-1)))) ho (Obj.isFreed_of_fields (Obj.data_mapFields hd _));refine wpAny_setField ho1 (Obj.data_mapFields hd _) (by simp) ?_;dsimp only;show wpAny _ _ (SmallTypes.stopIteration >>= _) _ _ _;refine wpAny_bind ?_;unfold SmallTypes.stopIteration
 first
 |show wpAny _ _ (newExc (.type "StopIteration") [] >>= _) _ _ _
 | (refine wpAny_bind ?_;show wpAny _ _ (newExc (.type "StopIteration") [] >>= _) _ _ _)
 refine wpAny_bind ?_;simp only[newExc,newTuple];refine wpAny_bind (wpAny_newObj_type ?_ (by size_fits));refine wpAny_bind (m:=firstArgMember _ _) (wpAny_of_eq (a:=Value.none) (by first | rfl | (simp only[firstArgMember];rfl)) ?_);refine wpAny_newObj_type ?_ (by size_fits);simp only[raiseNew];refine wpAny_bind (wpAny_handled ?_)
 first | rw[show A.in1.handled=none from hh] | rw[hh]
 refine wpAny_bind (wpAny_pure (wpAny_throw ?_));refine wpAny_bind (wpAny_isInstance (T:="StopIteration") (b:=true) ⟨_,JR _ rfl,rfl⟩ isSubtype_stop ?_);refine wpAny_pure (hQ _ ?_);intro b ob hb eb;exact JL _ (JL _ ((JQ _ _ (Ne.symm hb)).trans ((JQ _ _ (Ne.symm hb)).trans eb)))
theorem gx{it:Addr}{x:Str}{t:Tok}{i:Int}{Q:KF}(hit:s.heap.IsRvs it x t i)(h:Q (.ref it) s):wpAny (model prog w) A (pyIter (.ref it)) Q E s:=by
 refine wpAny_pyIter_slot hit.typeIs F.slot_rvs_iter (wpAny_call_entry F.slot_rvs_iter hit.typeIs F.entry_rvs_iter ?_ (F.args_rvs_iter_1 _));show wpAny _ _ (ret (.ref it)) _ _ s;exact wpAny_pure ⟨_,rfl,"reversed",_,hit.typeIs,F.slot_rvs_next.lookup,h⟩
theorem hint_rvs{it:Addr}{x:Str}{t:Tok}{i:Int}{Q:KF}(hit:s.heap.IsRvs it x t i)(hi:i<x.length)(hz:x.length<=sizeLine)
  (h:∀u tk,s.toks<=tk->Q (.int (i+1) u) {s with toks:=tk}):wpAny (model prog w) A (call (.builtin "reversed.__length_hint__") [.ref it]) Q E s:=by
 obtain⟨o,ho,hc,hd⟩:=id hit;refine wpAny_call_entry F.slot_rvs_hint hit.typeIs F.entry_rvs_hint ?_ (F.args_rvs_hint_1 _);unfold Builtin.«reversed.__length_hint__»;refine wpAny_bind (wpAny_of_eq (a:=Value.ref it) rfl ?_);refine wpAny_bind (wpAny_field ho hd (x:=.str x t) rfl ?_);show wpAny _ _ (if(Value.str x t==Value.none)=true then _ else _) _ _ s;rw[if_neg (show ¬ ((Value.str x t==Value.none)=true) from λz=>by cases(eq_of_beq z))];have hs:sizeLine=16777216:=sizeLine_eq;refine wpAny_bind (P.len_str ⋯ ?_);refine wpAny_bind (m:=asInt? _) (wpAny_pure ?_);dsimp only;refine wpAny_bind (wpAny_field ho hd (x:=rawInt i) rfl ?_);show wpAny _ _ (if(x.length:Int)<i+1 then _ else _) _ _ _;rw[if_neg ⋯];show wpAny _ _ (mkInt (i+1) >>= λv=>ret v) _ _ _;exact wpAny_bind (wpAny_mkInt (wpAny_pure ⟨_,rfl,h _ _ (by simp;omega)⟩))
theorem Walks.rvs{A:KR}(hh:A.handled=none)(I:Addr)(x:Str)(t:Tok)(hz:x.length<=sizeLine) :
  Walks prog w A I [I] [I] x.length (λi v=>∃c tk,x.cps[x.length-1-i]?=some c/\v=.str ⟨#[c]⟩ tk) (λi h=>i<=x.length/\h.IsRvs I x t ((x.length:Int)-1-(i:Int))) where
 sub:=λb hb=>hb
 frame:=λ_ _ _ y hk=>⟨y.1,y.2.at λo e=>hk I (by simp) o e⟩
 item:=λi s Q E hi y hQ=>by
  have e:(x.length:Int)-1-(i:Int)=((x.length-1-i:Nat):Int):=by omega
  have hit:=y.2;rw[e]at hit;have hb:x.length-1-i<x.cps.size:=by have:x.length=x.cps.size:=rfl;omega
  have hx:x.cps[x.length-1-i]?=some (x.cps[x.length-1-i]'hb):=Array.getElem?_eq_getElem hb;have hs:sizeLine=16777216:=sizeLine_eq;refine ic hit hx ⋯ λh' tk tk' hit' hs'=>?_;have e2:((x.length-1-i:Nat):Int)-1=(x.length:Int)-1-((i+1:Nat):Int):=by omega
  rw[e2]at hit';exact hQ _ h' tk' ⟨_,tk,hx,rfl⟩ ⟨hi,hit'⟩ λb o hb eo=>hs'.extBut b o (λh=>hb (by simp[h])) eo
 done:=λs Q E y hQ=>by
  have e:(x.length:Int)-1-(x.length:Int) = -1:=by omega
  have hit:=y.2;rw[e]at hit;exact iN hh hit λh' he'=>hQ h' s.toks λb o hb eo=>he' b o (λh=>hb (by simp[h])) eo
 self:=λ_ _ _ _ y hQ=>gx y.2 hQ
theorem kt{I:Addr}{x:Str}{t:Tok}{Q:List Value->Shared->Prop}(hh:A.handled=none)(hit:s.heap.IsRvs I x t ((x.length:Int)-1))(hz:x.length<=sizeLine)
  (hQ:∀s' acc,Moved [I] (λa b=>b=a) s s'->ItemsOf (λi v=>∃c tk,x.cps[x.length-1-i]?=some c/\v=.str ⟨#[c]⟩ tk) acc x.length->Q acc.toList s'):wpAny (model prog w) A (collect (.ref I)) Q E s:=by
 have W:=(Walks.rvs (prog:=prog) (w:=w) (A:=A.in1) hh I x t hz).toS;have hn:x.length<=sizeLine:=hz;have hst:(λi (s:KJ)=>i<=x.length/\s.heap.IsRvs I x t ((x.length:Int)-1-(i:Int))) 0 s:=⟨J9 _,by simpa using hit⟩;have hT:∀i (s:KJ),(i<=x.length/\s.heap.IsRvs I x t ((x.length:Int)-1-(i:Int)))->s.TypeIs (.ref I) "reversed":=λi s y=>y.2.typeIs;have hlt:I<s.heap.objs.size:=by obtain⟨o,ho,_⟩:=hit;exact J' ho
 have hSI:s.heap.objs.size≠I:=λe=>Ke _ (e▸hlt);have hSf:s.heap.objs.size∉[I]:=λhm=>hSI (JN.mp hm);unfold collect;refine wpAny_bind (wpAny_runValue (codeAny_builtin F.entry_proto_collect ?_));rw[Around.under_plainId F.plain_proto_collect _];show wpAny _ A.in1 (newList [] >>= λl=>again (.builtin "list.__iadd__" ⟨[l,.ref I],[]⟩)) _ _ s;refine wpAny_bind (wpAny_newObj_type ?_);refine wpAny_pure ⟨plainId_quiet F.plain_list_iadd _,codeAny_builtin F.entry_list_iadd ?_⟩;rw[Around.under_plainId F.plain_list_iadd _];have hst₁:=W.frame 0 s (s.heap.push {cls:=.type "list",data:=.seq ([]:List Value).toArray}) s.toks hst (J8 _) λb _ o e=>JL _ e;have hS₁:(s.heap.push {cls:=.type "list",data:=.seq ([]:List Value).toArray}).get? s.heap.objs.size=some {cls:=.type "list",data:=.seq ([]:List Value).toArray}:=JR _ rfl;have h1:Builtin.List.listSameRef (.ref s.heap.objs.size) (.ref I)=false:=by simp[Builtin.List.listSameRef,hSI]
 show wpAny _ A.in1 (Builtin.List.listExtendWith (.ref s.heap.objs.size) (.ref I) (.ref s.heap.objs.size)) _ _ _;unfold Builtin.List.listExtendWith;refine wpAny_bind (wpAny_typeOf (hT 0 _ hst₁) ?_);rw[if_neg (by rw[h1];decide)];refine wpAny_bind (W.self 0 _ _ _ hst₁ ?_);refine wpAny_bind (wpAny_holding ?_);unfold Builtin.List.listLengthHint;refine wpAny_bind (wpAny_specialOf (hT 0 _ hst₁) F.nolen_rvs ?_);show wpAny _ A.in1 (specialOf (Value.ref I) (Str.ofString "__length_hint__") >>= _) _ _ _;refine wpAny_bind (wpAny_specialOf (hT 0 _ hst₁) F.hint_rvs ?_)
 (generalize hid:("reversed.__length_hint__":String)=id0;(fail_if_success (clear hid id0));wp_delta;rw[show splitId id0=some ("reversed","__length_hint__") from by subst hid;decide +kernel];subst hid)
 refine wpAny_bind (wpAny_isInstance (b:=true) (hT 0 _ hst₁) (by rw[isSubtype_type];kernel_rfl) ?_);rw[if_neg (show ¬ ((!true)=true) by decide)];dsimp only
 split
 ·rename_i hsil
  exact absurd hsil (by decide +kernel)
 refine wpAny_bind (wpAny_rule ?_);refine wpAny_bind (wpAny_of_eq (F.slot_rvs_hint.bind _) ?_);dsimp only;refine wpAny_bind (wpAny_attempt ?_);refine hint_rvs (i:=(x.length:Int)-1-((0:Nat):Int)) hst₁.2 ⋯ hz λu tk htk=>?_;dsimp only;have hs:sizeLine=16777216:=sizeLine_eq;have hk:Builtin.List.listTooLong (Int.toNat ((x.length:Int)-1-((0:Nat):Int)+1))=false:=by
  unfold Builtin.List.listTooLong;have e:Int.toNat ((x.length:Int)-1-((0:Nat):Int)+1)=x.length:=by omega
  rw[e]
  simpa using hz
 refine wpAny_bind (m:=asInt? (.int _ u)) (wpAny_pure ?_);dsimp only;have hfit:Builtin.List.listFitsIndex ((x.length:Int)-1-((0:Nat):Int)+1)=true:=by
  unfold Builtin.List.listFitsIndex;simp;omega
 rw[if_neg (by rw[hfit];decide),if_neg ⋯,if_neg (by rw[hk];decide)];refine wpAny_pure ?_
 -- the loop,from a list that may have been touched
 have fin:∀(h₂:Heap) (c:Nat),(∀b o,b≠s.heap.objs.size->(s.heap.push {cls:=.type "list",data:=.seq ([]:List Value).toArray}).get? b=some o->h₂.get? b=some o) ->
   h₂.get? s.heap.objs.size=some {cls:=.type "list",data:=.seq ([]:List Value).toArray c} ->
   codeAny (model prog w) A (.builtin "list.extend.loop" ⟨[.ref s.heap.objs.size,.ref I,.ref s.heap.objs.size],[]⟩) (λr s'=>match r with
    | .ok (.ret v)=>wpAny (model prog w) A (match v with
     | .ref a=>do
      let __do_lift <- load a
      match __do_lift.data with
       | .seq xs _=>pure xs.toList
       |_=>unsupported "internal:collect"
     |_=>unsupported "internal:collect") Q E s'
    | .ok _=>False
    | .error e=>E e s') {s with heap:=h₂,toks:=tk}:=λh₂ c keep hS₂=>by
  have hst₂:(λi (s:KJ)=>i<=x.length/\s.heap.IsRvs I x t ((x.length:Int)-1-(i:Int))) 0 {s with heap:=h₂,toks:=tk}:=⟨J9 _,hst₁.2.at λo e=>keep I o (Ne.symm hSI) e⟩;refine codeAny_extend_loopS W hn _ hSf _ x.length 0 _ _ _ rfl (J9 _) hst₂ hS₂ (ItemsOf.nil _) λs' acc' c' hm hS' hacc=>?_;show wpAny _ A (load s.heap.objs.size >>= _) _ _ s';refine wpAny_bind (wpAny_load hS' ?_);refine wpAny_pure (hQ s' acc' ?_ hacc);exact⟨λb ob hb e=>hm.heap b ob (λhm'=>by
    rcases J0.mp hm' with e1 | hm'
    ·exact absurd (e1▸J' e) (Ke _)
    ·exact hb hm') (keep b ob (λe1=>absurd (e1▸J' e) (Ke _)) (JL _ e)),hm.gens,hm.drawn,hm.os,Kd htk hm.toks⟩
 have quiet:=plainId_quiet F.plain_extend_loop (⟨[.ref s.heap.objs.size,.ref I,.ref s.heap.objs.size],[]⟩:Args)
 split
 ·refine wpAny_bind (wpAny_rule ?_)
  show wpAny _ A.in1 ((updateSeq s.heap.objs.size (·.push .none) >>= λ_=>updateSeq s.heap.objs.size (·.pop)) >>= _) _ _ _;refine wpAny_bind (wpAny_bind (wpAny_updateSeq hS₁ rfl ?_ (by simp) (by simp)));have q1:=PySem.IsL.update (h:=s.heap.push {cls:=.type "list",data:=.seq ([]:List Value).toArray}) (l:=s.heap.objs.size) (items:=([]:List Value).toArray) (n:=0) hS₁ (·.push .none);refine wpAny_updateSeq q1 rfl ?_ (by simp;omega) (by simp);have q2:=PySem.IsL.update q1 (·.pop);exact wpAny_pure ⟨quiet,fin _ _ (λb o hb e=>(JQ _ _ (Ne.symm hb)).trans ((JQ _ _ (Ne.symm hb)).trans e)) (show _=some ({cls:=.type "list",data:=.seq ([]:List Value).toArray _}:Obj) from q2)⟩
 ·exact wpAny_pure ⟨quiet,fin _ _ (λb o hb e=>e) hS₁⟩
theorem AN{I:Addr}{x sep:Str}{t t0:Tok}{Q:KF}(hh:A.handled=none)(hit:s.heap.IsRvs I x t ((x.length:Int)-1))(hz:x.length<=1000)(hsep:sep.length<=1000)
  (h:∀(s':KJ) (t':Tok) (k:Nat),(∀b o,b≠I->s.heap.get? b=some o->s'.heap.get? b=some o)->s'.gens=s.gens->s'.drawn=s.drawn->s'.os=s.os ->
   Q (.str (Txt.join sep (x.cps.toList.reverse.map λc=>(⟨#[c]⟩:Str))) t') {s' with toks:=k}):wpAny (model prog w) A (call (.builtin "str.join") [.str sep t0,.ref I]) Q E s:=by
 have hs:sizeLine=16777216:=sizeLine_eq;refine wpAny_call (codeAny_call_builtin F.slot_str_join.plain F.entry_str_join (F.slot_str_join.check _ _ _ _ _ _ _ _ (typeIs_str _ _ _) (F.args_str_join_2 _ _) ?_));rw[join_tree_other];refine wpAny_bind (wpAny_typeOf hit.typeIs ?_);show wpAny _ A.in1 ((pyIter (.ref I)).tryCatch _ >>= λit=>collect it >>= λitems=>joinTail sep items) _ _ s;refine wpAny_bind (wpAny_tryCatch (gx hit ?_));refine wpAny_bind (kt hh hit ⋯ λs' acc hm hacc=>?_);obtain⟨l,hl⟩:=exists_strValues acc.toList λv hv=>by
  obtain⟨j,hj,rfl⟩:=Array.mem_iff_getElem.mp (Array.mem_toList_iff.mp hv);obtain⟨c,tk,_,e⟩:=hacc.2 j _ (Array.getElem?_eq_getElem hj);exact⟨_,_,e⟩
 have hlx:l.map (·.1)=x.cps.toList.reverse.map λc=>(⟨#[c]⟩:Str):=by
  have el:l.length=x.length:=by
   have q:=congrArg List.length hl;simp[strValues]at q;rw[q];exact hacc.1
  refine List.ext_getElem (by simp[el];rfl) λj h1 h2=>?_;simp only[List.getElem_map,List.getElem_reverse];have hj:j<l.length:=by simpa using h1
  have ha:acc.toList[j]?=some (Value.str (l[j]).1 (l[j]).2):=by
   rw[<- hl];simp[strValues,hj]
  have ha':acc[j]?=some (Value.str (l[j]).1 (l[j]).2):=by simpa using ha
  obtain⟨c,tk,hc,e⟩:=hacc.2 j _ ha'
  injection e with e1 _
  rw[e1];have hb:x.length-1-j<x.cps.size:=by have:x.length=x.cps.size:=rfl;omega
  rw[Array.getElem?_eq_getElem hb]at hc;have hc':=Option.some.inj hc;rw[<- hc'];simp only[Array.length_toList,Array.getElem_toList]
  rfl
 rw[<- hl];have hok:JoinOk sep (l.map (·.1))=true:=by
  unfold JoinOk;rw[StrLaws.joinTotal];have e1:((l.map (·.1)).map (·.length)).sum=x.length:=by
   rw[hlx,JZ];have:((λy:Str=>y.length)∘λc=>(⟨#[c]⟩:Str))=λ_=>1:=by funext c;rfl
   rw[this,List.map_const',List.sum_replicate_nat];simp
   rfl
  have e2:(l.map (·.1)).length=x.length:=by rw[hlx];simp;rfl
  rw[e1,e2];have:x.length*sep.length<=1000*1000:=Nat.mul_le_mul hz hsep;unfold tooLong;rw[decide_eq_false ⋯]
  rfl
 have hpost:=λt' k=>h s' t' k (λb o hb e=>hm.heap b o (λz=>hb (JN.mp z)) e) hm.gens hm.drawn hm.os;unfold JoinOk at hok;rw[Bool.not_eq_true']at hok;have g:Gives (joinTail sep (strValues l)) (joinMade sep l):=by
  have g0:=gives_joinTail sep l hok;cases l with
  |nil=>exact g0
  |cons p r=>cases r with
   |nil=>exact g0
   |cons q r'=>exact g0
 rw[<- hlx]at hpost;exact g prog w A (wants Q E) s' (post_join l ⟨joinFit_length hok,hpost⟩)
end
namespace F
theorem pL:Slot "reversed" "__init__" "object.__init__":=
 .of (owner:="object") (n:="__init__") (by rw[typeLookup_type,builtinLookup_eq_fast];kernel_rfl) (by decide +kernel) (by decide +kernel) (by decide +kernel)
  (by first | exact .inl (by decide +kernel) | exact .inr (by decide +kernel)) (by rw[isSubtype_type];kernel_rfl)
theorem w8:mroOf (.type "reversed")=pure [.type "reversed",.type "object"]:=by rw[mroOf_type];kernel_rfl
theorem nO:typeLookup (.type "reversed") "__new__"=pure (some (.builtin "reversed.__new__")):=by rw[typeLookup_type,builtinLookup_eq_fast];kernel_rfl
theorem rvs_called:TypeCalled "reversed" "reversed.__new__" "object.__init__":=
 ⟨by decide +kernel,by decide +kernel,⟨_,_,w8⟩,madeBy_type w8 nO (by decide +kernel),by decide +kernel,by rw[isSubtype_type];kernel_rfl,pL⟩
theorem rvs_typeCall_1(a:Value):checkTypeCall "reversed" ⟨[a],[]⟩=pure ():=by kernel_rfl
theorem rvs_newCall_1(a:Value):checkBuiltinCall "reversed.__new__" ⟨[.type "reversed",a],[]⟩=pure ():=by kernel_rfl
theorem rvs_entry_new:entryFor table "reversed.__new__"=some Builtin.«reversed.__new__»:=entryFor_of_tree (by kernel_rfl)
theorem rvs_sub:isSubtype (.type "reversed") (.type "reversed")=pure true:=by rw[isSubtype_type];kernel_rfl
theorem rvs_nostr:typeLookup (.type "str") "__reversed__"=pure none:=by rw[typeLookup_type,builtinLookup_eq_fast];kernel_rfl
end F
section
variable {prog:KP}{w:KS}{A:KR}{E:KF}{s:KJ}
theorem si(a:Value):Builtin.SmallTypes.newClass "reversed" ⟨[.type "reversed",a],[]⟩=pure (.type "reversed",[a]):=by
 unfold Builtin.SmallTypes.newClass;simp only[isType,F.rvs_sub,pure_bind,Bool.not_true,Bool.false_eq_true,if_false]
theorem pB(x:Str)(t:Tok)(hz:x.length<=sizeLine):Meets (Builtin.«reversed.__new__» ⟨[.type "reversed",.str x t],[]⟩)
  (λ_ R s=>R (.ok (.ret (.ref s.heap.objs.size))) {s with heap:=s.heap.push (vB x t ((x.length:Int)-1)),toks:=s.toks+1+1}):=
 .of_wp λprog w A R s h=>by
  have hs:sizeLine=16777216:=sizeLine_eq;unfold Builtin.«reversed.__new__»;refine wpAny_bind (wpAny_of_eq (si _) ?_)
  try dsimp only
  refine wpAny_bind (wpAny_of_eq (a:=()) (by first | rfl | kernel_rfl) ?_);refine wpAny_bind (wpAny_of_eq (a:=()) (by first | rfl | kernel_rfl) ?_)
  try dsimp only
  refine wpAny_bind (wpAny_specialOf (typeIs_str s x t) F.rvs_nostr ?_)
  try dsimp only
  refine wpAny_bind ?_;refine wpAny_bind (wpAny_isInstance (T:="str") (b:=false) (typeIs_str s x t) (by rw[isSubtype_type];kernel_rfl) ?_);rw[if_neg nofun];refine wpAny_bind (wpAny_specialOf (typeIs_str s x t) F.slot_str_getitem.lookup ?_);dsimp only
  split
  ·refine wpAny_pure ?_
   rw[if_neg nofun];refine wpAny_bind (P.len_str ⋯ ?_);refine wpAny_bind (m:=asInt? _) (wpAny_pure ?_);dsimp only;show wpAny _ _ (newObj (.type "reversed") (.fields #[.str x t,rawInt ((x.length:Int)-1)]) >>= λv=>ret v) _ _ _;exact wpAny_bind (wpAny_newObj_type (wpAny_pure ⟨_,rfl,h⟩))
  ·rename_i hn
   exact absurd (by decide +kernel) hn
theorem ku{x:Str}{t:Tok}{Q:KF}(hz:x.length<=sizeLine)
  (h:Q (.ref s.heap.objs.size) {s with heap:=s.heap.push (vB x t ((x.length:Int)-1)),toks:=s.toks+1+1}):wpAny (model prog w) A (call (.type "reversed") [.str x t]) Q E s:=
 callType_new F.rvs_called nofun (F.rvs_typeCall_1 _) (F.rvs_newCall_1 _) (λobj=>F.args_object_init_2 obj _) F.rvs_entry_new (pB x t hz) ⟨⟨_,JR _ rfl,rfl⟩,h⟩
end
end PySem
namespace L2
open PySem PySem.Spec PyProof.Rows
def eD(env:Env):List (Str×NameKind)->List (Str×Addr)->List (Str×Addr)
 | [],acc=>acc
 | (n,k)::r,acc=>if k==.free then eD env r ((n,(env.cells.lookup n).getD 0)::acc) else eD env r acc
theorem lV{env:Env}:∀(ns:List (Str×NameKind)) (acc:List (Str×Addr)),(∀x∈ns,x.2=.free->∃c,env.cells.lookup x.1=some c) ->
  (forIn ns acc fun(x:Str×NameKind) (cs:List (Str×Addr))=>(if x.2==.free then do
    let c <- cellOf env x.1
    pure (ForInStep.yield ((x.1,c)::cs))
   else pure (ForInStep.yield cs):Sem (ForInStep (List (Str×Addr)))))=pure (eD env ns acc)
 | [],acc,_=>rfl
 | (n,k)::r,acc,h=>by
  have ih:=λa=>lV (env:=env) r a λx hx=>h x (J1 _ hx);rw[List.forIn_cons]
  by_cases hk:k=.free
  ·subst hk
   obtain⟨c,hc⟩:=h (n,.free) List.mem_cons_self rfl;have hc':env.cells.lookup n=some c:=hc;have e1:cellOf env n=pure c:=by unfold cellOf;rw[hc']
   simp only[eD,hc',Option.getD_some];show((do let c <- cellOf env n;pure (ForInStep.yield ((n,c)::acc))) >>= _)=_;rw[e1,pure_bind,pure_bind];exact ih _
  ·have e2:(k==NameKind.free)=false:=by simpa using hk
   simp only[eD,e2,Bool.false_eq_true,if_false];rw[pure_bind];exact ih _
theorem io{env:Env}{scope:Scope}(h:∀x∈scope.names,x.2=.free->∃c,env.cells.lookup x.1=some c) :
  closureFor scope env=pure (eD env scope.names []):=by
 unfold closureFor;have e:=lV (env:=env) scope.names [] h;have e2:(forIn scope.names ([]:List (Str×Addr)) λx cs=>(match x with
   | (name,kind)=>if kind==.free then do
     let c <- cellOf env name
     pure (ForInStep.yield ((name,c)::cs))
    else pure (ForInStep.yield cs):Sem (ForInStep (List (Str×Addr)))))=pure (eD env scope.names []):=e
 simp only[]at e2 ⊢
 first
  | (rw[e2];rfl)
  | (erw [e2];rfl)
theorem gS{env:Env}:∀{ns:List (Str×NameKind)} {acc:List (Str×Addr)} {x:Str} {c:Addr},(∀y∈ns,y.2=.free->∃c,env.cells.lookup y.1=some c) ->
  (∀y c,acc.lookup y=some c->env.cells.lookup y=some c)->(eD env ns acc).lookup x=some c->env.cells.lookup x=some c
 | [],_,_,_,_,ha,e=>ha _ _ e
 | (n,k)::r,acc,x,c,h,ha,e=>by
  have hr:∀y∈r,y.2=.free->∃c,env.cells.lookup y.1=some c:=λy hy=>h y (J1 _ hy);unfold eD at e
  by_cases hk:k=.free
  ·subst hk
   rw[if_pos (by simp)]at e;obtain⟨c',hc⟩:=h (n,.free) List.mem_cons_self rfl;have hc':env.cells.lookup n=some c':=hc;refine gS hr (λy d z=>?_) e;rw[hc',Option.getD_some,List.lookup_cons]at z
   by_cases q:y=n
   ·subst q
    simp at z;subst z;exact hc'
   ·have q':(y==n)=false:=by simpa using q
    rw[q']at z;exact ha y d z
  ·rw[if_neg (by simpa using hk)]at e
   exact gS hr ha e
theorem mO{env:Env}:∀{ns:List (Str×NameKind)} {acc:List (Str×Addr)} {x:Str},((∃c,acc.lookup x=some c)\/(x,NameKind.free)∈ns)->∃c,(eD env ns acc).lookup x=some c
 | [],_,_,h=>by
  rcases h with h | h
  ·exact h
  ·exact nomatch h
 | (n,k)::r,acc,x,h=>by
  unfold eD
  by_cases hk:k=.free
  ·subst hk
   rw[if_pos (by simp)];refine mO ?_
   by_cases q:x=n
   ·subst q
    left
    simp[List.lookup_cons]
   ·have q':(x==n)=false:=by simpa using q
    rcases h with⟨c,h⟩ | h
    ·exact .inl ⟨c,by rw[List.lookup_cons,q'];exact h⟩
    ·rcases J0.mp h with z | z
     ·cases z
      exact absurd rfl q
     ·exact .inr z
  ·rw[if_neg (by simpa using hk)]
   refine mO ?_;rcases h with h | h
   ·exact .inl h
   ·rcases J0.mp h with z | z
    ·cases z
     exact absurd rfl hk
    ·exact .inr z
def u3(scope osc:Scope):Scope:=
 {scope with names:=scope.names.map fun(n,k)=>if(k==.free&&osc.kind==.function&&osc.names.lookup n==some .cell) then(n,.cell) else(n,k)}
def zU(scope osc:Scope):Bool:=
 (scope.kind==.function)&&(osc.kind==.function)&&scope.names.all fun(n,k)=>(k != .free || !scope.names.contains (n,NameKind.cell))&&(k != .local||scope.names.lookup n==some .local) &&
  (k != .free||osc.names.lookup n==some .cell||osc.names.lookup n==some .free)&&(k != .free||(u3 scope osc).names.lookup n != some .local)
structure bH(scope osc:Scope):Prop where
 kind:scope.kind=.function
 sep:∀x∈scope.names,x.2=.free->(x.1,NameKind.cell)∉scope.names
 loc:∀x∈scope.names,x.2=.local->scope.names.lookup x.1=some .local
 free:∀x∈scope.names,x.2=.free->osc.names.lookup x.1=some .cell\/osc.names.lookup x.1=some .free
 nl:∀x∈scope.names,x.2=.free->(u3 scope osc).names.lookup x.1≠some .local
theorem bH.of{scope osc:Scope}(h:zU scope osc=true):bH scope osc:=by
 unfold zU at h;rw[Bool.and_eq_true,Bool.and_eq_true,Ku]at h;obtain⟨⟨h1,h0⟩,h2⟩:=h;refine⟨by simpa using h1,λx hx e=>?_,λx hx e=>?_,λx hx e=>?_,λx hx e=>?_⟩
 all_goals
  obtain⟨n,k⟩:=x;have q:=h2 (n,k) hx;simp only[Bool.and_eq_true,Bool.or_eq_true,bne_iff_ne,beq_iff_eq]at q
 ·have z:=q.1.1.1.resolve_left (λz=>z e)
  simpa using z
 ·exact q.1.1.2.resolve_left (λz=>z e)
 ·rcases q.1.2 with(z | z) | z
  ·exact absurd e z
  ·exact .inl z
  ·exact .inr z
 ·exact q.2.resolve_left (λz=>z e)
theorem fu{osc:Scope}:∀{ns:List (Str×NameKind)} {x:Str} {k':NameKind},
  (ns.map fun(n,k)=>if(k==NameKind.free&&osc.kind==.function&&osc.names.lookup n==some .cell) then(n,NameKind.cell) else(n,k)).lookup x=some k' ->
  (k'=.cell\/k'=.free)->(x,NameKind.free)∈ns\/(x,NameKind.cell)∈ns
 | [],_,_,h,_=>by simp at h
 | (n,k)::r,x,k',h,hk'=>by
  rw[Kc]at h
  by_cases q:x=n
  ·subst q
   by_cases z:(k==NameKind.free&&osc.kind==.function&&osc.names.lookup x==some .cell)=true
   ·have:k=.free:=by
     simp only[Bool.and_eq_true,beq_iff_eq]at z;exact z.1.1
    subst this;exact .inl List.mem_cons_self
   ·simp only[z,Bool.false_eq_true,if_false]at h
    rw[List.lookup_cons]at h;simp at h;subst h;rcases hk' with e | e
    ·subst e;exact .inr List.mem_cons_self
    ·subst e;exact .inl List.mem_cons_self
  ·have q':(x==n)=false:=by simpa using q
   refine(fu (osc:=osc) (k':=k') (ns:=r) (x:=x) ?_ hk').imp (J1 _) (J1 _)
   by_cases z:(k==NameKind.free&&osc.kind==.function&&osc.names.lookup n==some .cell)=true
   ·simp only[z,if_true]at h
    rw[List.lookup_cons,q']at h;exact h
   ·simp only[z,Bool.false_eq_true,if_false]at h
    rw[List.lookup_cons,q']at h;exact h
theorem iG:∀(ns:List (Str×NameKind)) (n:Nat) (acc:List (Str×Addr)),cellsFrom n ns acc=cellsFrom n ns []++acc
 | [],_,_=>rfl
 | (x,k)::r,n,acc=>by
  unfold cellsFrom
  split
  ·rw[iG r (n+1) ((x,n)::acc),iG r (n+1) [(x,n)],Kh];rfl
  ·exact iG r n acc
theorem tY:∀{ns:List (Str×NameKind)} {n:Nat} {x:Str} {c:Addr},(x,c)∈cellsFrom n ns []->(x,NameKind.cell)∈ns
 | [],_,_,_,h=>nomatch h
 | (y,k)::r,n,x,c,h=>by
  unfold cellsFrom at h
  split at h
  ·rename_i hk
   rw[iG]at h;rcases JY.mp h with h | h
   ·exact J1 _ (tY h)
   ·cases JN.mp h
    have:k=.cell:=by simpa using hk
    subst this;exact List.mem_cons_self
  ·exact J1 _ (tY h)
theorem sK:∀{ns:List (Str×NameKind)} {n:Nat} {x:Str} {acc:List (Str×Addr)},((x,NameKind.cell)∈ns\/∃c,acc.lookup x=some c)->∃c,(cellsFrom n ns acc).lookup x=some c
 | [],_,_,_,h=>h.elim (λz=>nomatch z) id
 | (y,k)::r,n,x,acc,h=>by
  unfold cellsFrom
  split
  ·refine sK ?_
   by_cases q:x=y
   ·subst q
    exact .inr ⟨n,by simp[List.lookup_cons]⟩
   ·have q':(x==y)=false:=by simpa using q
    rcases h with h | ⟨c,h⟩
    ·rcases J0.mp h with z | z
     ·cases z;exact absurd rfl q
     ·exact .inl z
    ·exact .inr ⟨c,by rw[List.lookup_cons,q'];exact h⟩
  ·rename_i hk
   refine sK ?_;rcases h with h | h
   ·rcases J0.mp h with z | z
    ·cases z;exact absurd rfl hk
    ·exact .inl z
   ·exact .inr h
def dI(env:Env)(scope:Scope)(C:Addr):List (Str×Addr):=cellsFrom (C+1) scope.names (eD env scope.names [])
theorem kj:∀{ns:List (Str×NameKind)} {n:Nat} {x:Str} {c:Addr},(x,c)∈cellsFrom n ns []->n<=c
 | [],_,_,_,h=>nomatch h
 | (y,k)::r,n,x,c,h=>by
  unfold cellsFrom at h
  split at h
  ·rw[iG]at h
   rcases JY.mp h with h | h
   ·exact Kd (Nat.le_succ _) (kj h)
   ·cases JN.mp h
    exact J8 _
  ·exact kj h
theorem nW:∀{ns:List (Str×NameKind)} {n:Nat},(cellsFrom n ns []).Pairwise λx y=>x.2≠y.2
 | [],_=>List.Pairwise.nil
 | (y,k)::r,n=>by
  unfold cellsFrom
  split
  ·rw[iG]
   refine List.pairwise_append.mpr ⟨nW,by simp,λa ha b hb e=>?_⟩;cases JN.mp hb;have:=kj (x:=a.1) (c:=a.2) ha;rw[e]at this;exact absurd this (Nat.not_succ_le_self _)
  ·exact nW
theorem hV{env:Env}{scope:Scope}{C:Addr}{x:Str}{c:Addr}(h:(dI env scope C).lookup x=some c) :
  ((x,c)∈cellsFrom (C+1) scope.names []/\C<c/\(x,NameKind.cell)∈scope.names)\/((cellsFrom (C+1) scope.names []).lookup x=none/\(eD env scope.names []).lookup x=some c):=by
 unfold dI at h;rw[iG,List.lookup_append]at h;cases q:(cellsFrom (C+1) scope.names []).lookup x with
 |none=>rw[q]at h;exact .inr ⟨rfl,h⟩
 |some d=>
  rw[q]at h;cases h;have:=mem_of_lookup q;exact .inl ⟨this,kj this,tY this⟩
theorem Az{ns:List (Str×NameKind)}{n:Nat}{x:Str}(h:(x,NameKind.cell)∉ns):(cellsFrom n ns []).lookup x=none:=by
 cases q:(cellsFrom n ns []).lookup x with
 |none=>rfl
 |some d=>exact absurd (tY (mem_of_lookup q)) h
section
variable {M:Model}{A:KR}{E:KF}{s:KJ}
theorem eN{scope:Scope}{globals:Addr}{closure:List (Str×Addr)}{qual:Str}{func:KU}{code:Value}{outer:Env}{builtins:Addr}{Q:Env->Shared->Prop}
  (hQ:Q (newEnv scope s.heap.objs.size globals (cellsFrom (s.heap.objs.size+1) scope.names closure) qual func code (some outer) builtins) {s with heap:=pushCells (s.heap.push {cls:=.type "dict",data:=.dict #[]}) scope.names}) :
  wpAny M A (newFunctionEnv scope globals closure [] qual func code (some outer) builtins) Q E s:=by
 simp only[newFunctionEnv,Option.isSome_some,if_true];simp only[newEnv]at hQ;refine wpAny_bind (wpAny_alloc ?_);refine wpAny_bind (wpAny_layCells _ (λname kind cells=>by cases hkc:kind==NameKind.cell<;>simp[hkc]) _ _ _ _ ?_);rw[show({s with heap:=s.heap.push {cls:=.type "dict",data:=.dict #[]} }:Shared).heap.objs.size=s.heap.objs.size+1 from Heap.size_push ..];rw[List.forIn_nil];exact wpAny_bind (wpAny_pure (wpAny_pure hQ))
end
def Cx.blk(X:Cx)(N':KQ)(s₂:KJ)(H₂:Hp)(scope:Scope)(fp:KM)(C:Addr):Cx where
 prog:=X.prog
 w:=X.w
 K:=X.K
 mg:=X.mg
 base:=X.base
 A:=X.A
 N:=N'
 s₀:=s₂
 H₀:=H₂
 env:=compEnvC scope (dI X.env scope C) C X.env
 outer:=X.stack
 stack:=X.stack
 ex:=fp
 fn:=λx=>scope.names.contains (x,NameKind.cell)
 calm:=X.calm
 pn:=[]
 xe:=λ_ _=>False
def qG(k:Nat)(js:KI)(σ:St):St:=List.replicate k none++js.map λj=>(σ[j]?).join
def ot(own:KQ)(js:KI)(N:KQ):List Str:=own++js.map λj=>N.getD j Str.empty
section
variable {X:Cx}
theorem Inv.capFree{pins:KH}{σ:St}{H:Hp}{s:KJ}{scope:Scope}(I:Inv X pins σ H s)(hk:bH scope X.env.scope):∀x∈scope.names,x.2=.free->∃c,X.env.cells.lookup x.1=some c:=
 λx hx e=>I.ok.has x.1 (hk.free x hx e)
theorem Inv.capL{pins:KH}{σ:St}{H:Hp}{s:KJ}{scope:Scope}{x:Str}{c:Addr}(I:Inv X pins σ H s)(hk:bH scope X.env.scope)(e:(eD X.env scope.names []).lookup x=some c):X.env.cells.lookup x=some c:=
 gS (I.capFree hk) (λ_ _ z=>by simp at z) e
theorem Inv.blkL{pins:KH}{σ:St}{H:Hp}{s:KJ}{scope:Scope}{C:Addr}{x:Str}{c:Addr}(I:Inv X pins σ H s)(hk:bH scope X.env.scope)(e:(dI X.env scope C).lookup x=some c) :
  ((x,c)∈cellsFrom (C+1) scope.names []/\C<c/\(x,NameKind.cell)∈scope.names)\/X.env.cells.lookup x=some c:=
 (hV e).imp id λz=>I.capL hk z.2
theorem Ee{pins:KH}{σ:St}{H:Hp}{s:KJ}{N':KQ}{scope:Scope}{fp:KM}{C:Addr}(I:Inv X pins σ H s)(hk:bH scope X.env.scope)(hC:s.heap.objs.size<=C)
  (hf:∀b∈fp,mx X pins H b) (ho:∀b∈fp,∃o,s.heap.get? b=some o):(X.blk N' s H scope fp C).Ok where
 mod:=I.ok.mod
 kind:=hk.kind
 glob:=I.ok.glob
 blt:=I.ok.blt
 above:=hC
 inj:=λx y c e1 e2=>by
  have low:∀z,X.env.cells.lookup z=some c->c<C:=λz e=>by
   obtain⟨v,q⟩:=I.cell z c e;exact J3 q.lt hC
  rcases I.blkL hk e1 with⟨a1,a2,_⟩ | a<;>rcases I.blkL hk e2 with⟨b1,b2,_⟩ | b
  ·exact name_of_addr nW a1 b1
  ·exact absurd (low _ b) (Nat.not_lt.mpr (Nat.le_of_lt a2))
  ·exact absurd (low _ a) (Nat.not_lt.mpr (Nat.le_of_lt b2))
  ·exact I.ok.inj x y c a b
 has:=λx h=>by
  refine sK ?_;have z:(x,NameKind.free)∈scope.names\/(x,NameKind.cell)∈scope.names:=by
   rcases h with h | h
   ·exact fu (osc:=X.env.scope) h (.inl rfl)
   ·exact fu (osc:=X.env.scope) h (.inr rfl)
  rcases z with z | z
  ·exact .inr (mO (.inr z))
  ·exact .inl z
 cab:=λx c z e=>by
  have z':(x,NameKind.cell)∈scope.names:=by
   have z2:scope.names.contains (x,NameKind.cell)=true:=z
   simpa using z2
  have e':(dI X.env scope C).lookup x=some c:=e;rcases hV e' with⟨_,a,_⟩ | ⟨a,_⟩
  ·exact Kd hC (Nat.le_of_lt a)
  ·obtain⟨d,q⟩:=sK (n:=C+1) (acc:=[]) (.inl z')
   rw[a]at q;cases q
 hd:=I.ok.hd
 frames:=I.ok.frames
 stk:=.inl rfl
 exf:=λb hb=>⟨λe=>by
  obtain⟨o,q⟩:=ho b hb;have e':b=C:=e;rw[e']at q;exact absurd (J' q) (Nat.not_lt.mpr hC),λx c e=>by
  rcases I.blkL hk e with⟨_,a,_⟩ | a
  ·obtain⟨o,q⟩:=ho b hb
   intro z;rw[z]at a;exact absurd (J3 (J' q) hC) (Nat.not_lt.mpr (Nat.le_of_lt a))
  ·exact(hf b hb).2.2.2.2.1 x c a⟩
 bs:=I.bs
 bsz:=Kd I.ok.bsz I.sz
 noex:=λb o e hb=>by
  rcases(hf b hb).2.2.2.1 with z | z
  ·exact I.ok.noex b o e z
  ·exact absurd (J' (I.ok.bs b o e).1) (Nat.not_lt.mpr z)
 exfs:=λb hb hs=>by
  rcases J0.mp (I.stkSub b hs) with z | z
  ·exact(hf b hb).2.1 z
  ·exact(hf b hb).2.2.1 z
 funs:=I.stack
 frf:=I.stkFree
theorem zi{pins:KH}{σ:St}{H:Hp}{s s1:KJ}{own:KQ}{js:KI}{scope:Scope}{fp:KM}{C:Addr}{m:KN}(I:Inv X pins σ H s)(hk:bH scope X.env.scope)(hC:s.heap.objs.size<=C)
  (hf:∀b∈fp,mx X pins H b) (ho:∀b∈fp,∃o,s.heap.get? b=some o) (hos:s1.os=s.os) (hg:s1.gens=s.gens) (hn:s1.heap.Ns C m) (keep:∀b o,s.heap.get? b=some o->s1.heap.get? b=some o)
  (hown:∀x c,(x,c)∈cellsFrom (C+1) scope.names []->s1.heap.IsCell c none) (hcap:(js.all λj=>scope.names.contains (X.N.getD j Str.empty,NameKind.free))=true) :
  Inv (X.blk (ot own js X.N) s H scope fp C) [] (qG own.length js σ) H s1:=by
 have cl:=fun{x:Str} {c:Addr} (e:(eD X.env scope.names []).lookup x=some c)=>gS (I.capFree hk) (λ_ _ z=>by simp at z) e;refine⟨Ee I hk hC hf ho,hos,hg▸I.bare,Un.kept keep,⟨m,hn,λi x v e1 e2 e3=>?_⟩,λx c e=>?_,I.hok.fresh hC,λx c e=>(I.blkL hk e).elim (λz=>I.hok.fresh (Kd hC (Nat.le_of_lt z.2.1))) λz=>I.freeC x c z,λp hp=>(nomatch hp),I.hok.kept keep,?_⟩
 ·have e1':(own++js.map λj=>X.N.getD j Str.empty)[i]?=some x:=e1
  have e2':(List.replicate own.length none++js.map λj=>(σ[j]?).join)[i]?=some (some v):=e2
  by_cases hi:i<own.length
  ·rw[J6 (by rw[List.length_replicate];exact hi),List.getElem?_replicate,if_pos hi]at e2'
   cases e2'
  ·have hi':own.length<=i:=Nat.le_of_not_lt hi
   rw[J5 (by rw[List.length_replicate];exact hi'),List.length_replicate,JO]at e2';rw[J5 hi',JO]at e1';cases ej:js[i-own.length]? with
   |none=>rw[ej]at e1';cases e1'
   |some j=>
    rw[ej]at e1' e2';have ex:X.N.getD j Str.empty=x:=Option.some.inj e1';have ev:(σ[j]?).join=some v:=Option.some.inj e2';have hj:σ[j]?=some (some v):=by
     cases q:σ[j]? with
     |none=>rw[q]at ev;cases ev
     |some z=>rw[q]at ev;simp at ev;rw[ev]
    have hjl:j<X.N.length:=by rw[<- I.len];exact(JK.mp hj).1
    have hN:X.N[j]?=some x:=by rw[<- ex,List.getD_eq_getElem?_getD,JJ hjl];rfl
    have hx:(x,NameKind.free)∈scope.names:=by
     have q:=Ku.mp hcap j (JP ej);rw[ex]at q
     simpa using q
    have ko:=hk.free _ hx rfl;obtain⟨mo,hno,hl⟩:=I.loc;obtain⟨u,ru,lk⟩:=hl j x v hN hj (ko.elim (λz=>.inr (.inl z)) λz=>.inr (.inr z));refine⟨u,ru,?_⟩;rcases lk with⟨kk,_⟩ | ⟨kk,c,ec,hc⟩
    ·rcases ko with z | z
     ·rw[show X.env.kindOf x=X.env.scope.names.lookup x from rfl,z]at kk;cases kk
     ·rw[show X.env.kindOf x=X.env.scope.names.lookup x from rfl,z]at kk;cases kk
    ·obtain⟨c',hc'⟩:=mO (env:=X.env) (ns:=scope.names) (acc:=[]) (x:=x) (.inr hx)
     have:=cl hc';rw[ec]at this;cases this;refine .inr ⟨?_,c,?_,hc.keeps keep⟩
     case refine_2=>
      show(dI X.env scope C).lookup x=some c;unfold dI;rw[iG,List.lookup_append,Az (hk.sep _ hx rfl)];exact hc'
     -- its kind within the block
     rcases e3 with z | z | z
     ·exact absurd z (hk.nl _ hx rfl)
     ·exact .inl z
     ·exact .inr z
 ·rcases I.blkL hk e with z | z
  ·exact⟨none,hown x c z.1⟩
  ·obtain⟨v,z⟩:=I.cell x c z
   exact⟨v,z.keeps keep⟩
 ·show(List.replicate own.length none++js.map λj=>(σ[j]?).join).length=(own++js.map λj=>X.N.getD j Str.empty).length
  simp
def DU(env:Env)(ifs:KW):Sem Bool:=forIn ifs true λc r=>if r=true then do let ok <- isTrue c env (eval c env);pure (ForInStep.yield ok) else pure (ForInStep.yield r)
theorem rP{prog:KP}{w:KS}{A:KR}{R:Result->Shared->Prop}{s:KJ}{elt target iter:Expr}{ifs:KW}{scope:Scope}{pos:Pos}{it acc:Value}{env:Env}(I:Nat->Shared->Prop)
  (turn:∀n s,I n s->wpAny (model prog w) A (pyNext it) (λr s₁=>match r with
   |none=>R (.ok .next) s₁
   |some v=>wpAny (model prog w) A (letOwnedTupleGo target it v) (λ_ s₁'=>wpAny (model prog w) A (assign target env v) (λ_ s₂=>
     wpAny (model prog w) A (DU env ifs) (λok s₃=>
      if ok=true then wpAny (model prog w) A (eval elt env) (λx s₄=>
       wpAny (model prog w) A (call (.builtin "list.append") [acc,x]) (λ_ s₅=>∃m,m<n/\I m s₅) (λ_ _=>False) s₄) (λ_ _=>False) s₃
      else ∃m,m<n/\I m s₃) (λ_ _=>False) s₂) (λ_ _=>False) s₁') (λ_ _=>False) s₁) (λ_ _=>False) s)
  (n:Nat) (h:I n s) :
  codeAny (model prog w) A (.compLoop (.ListComp elt [⟨target,iter,ifs,0⟩] scope pos) 0 it acc env) R s:=by
 refine codeAny_loop rfl I (λn s hI=>?_) n h;show wpAny _ A ((compTurn (.ListComp elt [⟨target,iter,ifs,0⟩] scope pos) 0 it acc env).onRaise (λx=>do noteFrame x env;theTreesLotGoes x)) _ _ s;refine wpAny_noted ?_;rw[compTurn_list];have up:∀{α:Type} {t:Sem α} {Q Q':α->Shared->Prop} {E':KF} {s:KJ},wpAny (model prog w) A t Q (λ_ _=>False) s->(∀a s,Q a s->Q' a s)->wpAny (model prog w) A t Q' E' s:=
  λh hQ=>wpAny_mono h hQ λ_ _ f=>f.elim
 refine wpAny_bind (wpAny_standAt (wpAny_bind (up (turn n s hI) λr s₁ h₁=>?_)));cases r with
 |none=>exact wpAny_pure h₁
 |some v=>
  refine wpAny_bind (up h₁ λ_ s₁' h₁'=>wpAny_bind (up h₁' λ_ s₂ h₂=>wpAny_bind (up h₂ λok s₃ h₃=>?_)));cases ok with
  |false=>exact wpAny_pure ⟨rfl,h₃⟩
  |true=>
   exact wpAny_bind (wpAny_bind (up h₃ λx s₄ h₄=>wpAny_bind (up h₄ λ_ s₅ h₅=>wpAny_pure (wpAny_pure ⟨rfl,h₅⟩))))
def F1(X:Cx)(ifs:KW)(t:TT):Prop:=
 ∀(pins:KH) (s:KJ) (σ:St) (H:Hp) (Q:Bool->Hp->Prop),Inv X pins σ H s->t σ H Q->wpAny (model X.prog X.w) X.A (DU X.env ifs) (TP X pins σ Q) X.xe s
def AY:TT:=λ_ H Q=>Q true H
theorem cN{X:Cx}:F1 X [] AY:=λpins s σ H Q I h=>wpAny_tests_nil ⟨H,I,h⟩
theorem tL{X:Cx}{c:Expr}{t:TT}(h:PT X c t):F1 X [c] t:=λpins s σ H Q I q=>wpAny_tests_one (h pins s σ H Q I q)
def g_(J:It)(g:TG)(ti:TT)(te:TE)(σ:St)(H:Hp)(Q:List V->Hp->Prop):Prop:=
 ∃W:Nat->Nat->List V->St->Hp->Prop,(∃m,W 0 m [] σ H)/\∀i m acc σ' H',W i m acc σ' H' ->
  acc.length<sizeLine/\((J.stop i H'/\Q acc H') \/
   (J.go i H'/\∃N:List V->St->Hp->Prop,(∀acc' σ2 H2,N acc' σ2 H2->∃m',m'<m/\W (i+1) m' acc' σ2 H2) /\
    ∀x H2,J.yld i H' x H2->g x σ' H2 λσ2 H3=>ti σ2 H3 λb H4=>if b=true then te σ2 H4 λv H5=>N (acc++[v]) σ2 H5 else N acc σ2 H4))
def xQ(k:Nat)(js:KI)(wi:TI)(g:TG)(ti:TT)(te:TE):TE:=λσ H Q=>wi σ H λJ H1=>g_ J g ti te (qG k js σ) H1 λacc H'=>∀l,H' l=none->Q (.ref l) (aC H' l (.lst acc))
abbrev fR(its:KL)(n:Nat):Obj:={cls:=.type "list",data:=.seq its.toArray n}
theorem qt{pins:KH}{σ:St}{H:Hp}{s:KJ}{elt tg iter:Expr}{ifs:KW}{scope:Scope}{pos:Pos}{own:KQ}{js:KI}{g:TG}{ti:TT}{te:TE}{J:It}{fp:KM}{it:Addr}{tn:Nat->Heap->Prop}{Q:List V->Hp->Prop}{E:KF}
  {RR:Value->Addr->Result->Shared->Prop} (hc:X.calm=true) (hk:bH scope X.env.scope) (hcap:(js.all λj=>scope.names.contains (X.N.getD j Str.empty,NameKind.free))=true)
  (hg:∀s H fp C,PG (X.blk (ot own js X.N) s H scope fp C) tg g) (hi:∀s H fp C,F1 (X.blk (ot own js X.N) s H scope fp C) ifs ti) (he:∀s H fp C,PE (X.blk (ot own js X.N) s H scope fp C) elt te)
  (I:Inv X pins σ H s) (T:v3 X.prog X.w X.K tg J fp it tn) (st:tn 0 s.heap) (hf:∀b∈fp,mx X pins H b)
  (hW:g_ J g ti te (qG own.length js σ) H Q)
  (hRR:∀(D C:Addr) (s':KJ) (H':Hp) (acc:List V) (m:KN),Q acc H'->H' D=none->Inv X pins σ (aC H' D (.lst acc)) s'->s'.heap.Ns C m->aC H' D (.lst acc) C=none->C≠X.env.locals->X.s₀.heap.objs.size<=C ->
   (∀x c,X.env.cells.lookup x=some c->c≠C)->(∀p∈X.pn++pins,p.1≠C)->RR (.ref D) C (.ok .next) s') :
  wpAny (model X.prog X.w) X.A (newList []) (λacc s₃=>wpAny (model X.prog X.w) X.A (newFunctionEnv scope X.env.globals (eD X.env scope.names []) [] X.env.qual none .none (some X.env)) (λcenv s₄=>
   codeAny (model X.prog X.w) X.A (.compStart (.ListComp elt [⟨tg,iter,ifs,0⟩] scope pos) 0 (.ref it) acc {cenv with scope:=relabel scope X.env}) (RR acc cenv.locals) s₄) E s₃) E s:=by
 obtain⟨W,⟨m0,w0⟩,turn⟩:=hW;refine wpAny_newObj_type (eN ?_);dsimp only;generalize hH2:s.heap.push {cls:=.type "list",dict:=none,data:=.seq ([]:List Value).toArray}=H2;generalize hh1:pushCells (H2.push {cls:=.type "dict",data:=.dict #[]}) scope.names=h₁;have hpk:∀b o,(H2.push {cls:=.type "dict",data:=.dict #[]}).get? b=some o->h₁.get? b=some o:=λb o e=>hh1▸pushCells_keeps _ _ b o e;have hns₁:h₁.Ns H2.objs.size λ_=>none:=by
  have q:(H2.push {cls:=.type "dict",data:=.dict #[]}).Ns H2.objs.size λ_=>none:=Heap.Ns.new ..;exact q.at' λo e=>hpk _ o e
 have hown₁:∀x c,(x,c)∈cellsFrom (H2.objs.size+1) scope.names []->h₁.IsCell c none:=λx c e=>by
  have ok:=cellsFrom_ok scope.names (H2.push {cls:=.type "dict",data:=.dict #[]}) (H2.objs.size+1) [] ⟨λ_ _ hm=>(nomatch hm),List.Pairwise.nil⟩ (by rw[Heap.size_push];exact J8 _);rw[Heap.size_push,hh1]at ok;exact(ok.empty x c e).1
 have hC:H2.objs.size=s.heap.objs.size+1:=by rw[<- hH2,Heap.size_push]
 have hDC:s.heap.objs.size≠H2.objs.size:=by rw[hC];exact J4 (Kf _)
 have hCle:s.heap.objs.size<=H2.objs.size:=by rw[hC];exact Nat.le_succ _
 have below:∀b,b<s.heap.objs.size->b≠H2.objs.size/\b≠s.heap.objs.size:=λb hb=>⟨by rw[hC];exact J4 (Nat.lt_succ_of_lt hb),J4 hb⟩;have old:∀b o,s.heap.get? b=some o->h₁.get? b=some o:=λb o e=>hpk b o (JL _ (hH2▸JL _ e));have hacc:h₁.get? s.heap.objs.size=some (fR [] 0):=hpk _ _ (JL _ (hH2▸JR _ rfl));have hob:∀b∈fp,∃o,s.heap.get? b=some o:=λb hb=>let ⟨o,e,_⟩:=T.obj 0 _ st b hb;⟨o,e⟩
 have st₁:tn 0 h₁:=T.keep 0 _ _ st λb _ o e=>old b o e;generalize hXb:X.blk (ot own js X.N) s H scope fp H2.objs.size=Xb;have I₁:Inv Xb [] (qG own.length js σ) H {s with heap:=h₁}:=hXb▸zi I hk hCle hf hob rfl rfl hns₁ old hown₁ hcap;have eP:Xb.prog=X.prog:=by rw[<- hXb];rfl
 have ew:Xb.w=X.w:=by rw[<- hXb];rfl
 have eK:Xb.K=X.K:=by rw[<- hXb];rfl
 have eA:Xb.A=X.A:=by rw[<- hXb];rfl
 have ec:Xb.calm=true:=by rw[<- hXb];exact hc
 have eE:Xb.env=compEnvC scope (dI X.env scope H2.objs.size) H2.objs.size X.env:=by rw[<- hXb];rfl
 have ex:Xb.xe=λ_ _=>False:=by rw[<- hXb];rfl
 have es:Xb.s₀=s:=by rw[<- hXb];rfl
 have eh:Xb.H₀=H:=by rw[<- hXb];rfl
 have ef:Xb.fs=lK X.stack:=by rw[<- hXb];rfl
 have exx:Xb.ex=fp:=by rw[<- hXb];rfl
 have ep:Xb.pn=[]:=by rw[<- hXb];rfl
 have eL:Xb.env.locals=H2.objs.size:=by rw[eE];rfl
 have hD0:H s.heap.objs.size=none:=I.hok.fresh (J8 _)
 -- D is no iterator's,no frame's
 have hDf:∀b∈fp,b≠s.heap.objs.size:=λb hb e=>by
  obtain⟨o,q⟩:=hob b hb;rw[e]at q;exact absurd (J' q) (Ke _)
 have hDs:s.heap.objs.size∉Xb.fs:=λz=>by
  rw[ef]at z;rcases J0.mp (I.stkSub _ z) with q | q
  ·exact absurd I.lt (by rw[<- q];exact Ke _)
  ·exact I.nofs (J8 _) q
 have hDcell:∀x c,Xb.env.cells.lookup x=some c->c≠s.heap.objs.size:=λx c e q=>by
  rcases I.blkL hk (C:=H2.objs.size) (x:=x) (c:=c) (by rw[eE]at e;exact e) with⟨_,z,_⟩ | z
  ·rw[q]at z
   exact absurd hCle (Nat.not_le.mpr z)
  ·obtain⟨v,o,ho,_⟩:=I.cell x c z
   rw[q]at ho;exact absurd (J' ho) (Ke _)
 have stat:∀{pl:KH} {H':Hp},(∀b∈fp,H' b=none)->(∀p∈pl,p.1=s.heap.objs.size)->∀b∈fp,mx Xb pl H' b:=λhn hp b hb=>by
  refine⟨hn b hb,?_,?_,.inl (by rw[exx];exact hb),λx c e=>?_,λp hpp=>?_⟩
  ·rw[eL];exact(below b (let ⟨o,q⟩:=hob b hb;J' q)).1
  ·rw[ef];intro z
   rcases J0.mp (I.stkSub b z) with q | q
   ·exact(hf b hb).2.1 q
   ·exact(hf b hb).2.2.1 q
  ·rcases I.blkL hk (C:=H2.objs.size) (x:=x) (c:=c) (by rw[eE]at e;exact e) with⟨_,z,_⟩ | z
   ·intro q
    rw[q]at z;obtain⟨o,q2⟩:=hob b hb;exact absurd (J3 (J' q2) hCle) (Nat.not_lt.mpr (Nat.le_of_lt z))
   ·exact(hf b hb).2.2.2.2.1 x c z
  ·rw[ep,Kx]at hpp
   rw[hp p hpp];exact(hDf b hb).symm
 have loop:∀s₃:Shared,s₃={s with heap:=h₁} ->
   codeAny (model X.prog X.w) X.A (.compLoop (.ListComp elt [⟨tg,iter,ifs,0⟩] scope pos) 0 (.ref it) (.ref s.heap.objs.size) (compEnvC scope (dI X.env scope H2.objs.size) H2.objs.size X.env))
    (RR (.ref s.heap.objs.size) H2.objs.size) s₃:=by
  rintro s₃ rfl;refine rP (λn s'=>∃(i:Nat) (acc:List V) (its:KL) (k:Nat) (σ':St) (H':Hp),Inv Xb [] σ' H' s'/\tn i s'.heap/\(∀b∈fp,H' b=none)/\H' s.heap.objs.size=none/\s'.heap.get? s.heap.objs.size=some (fR its k)/\aW acc its/\W i n acc σ' H')
   ?_ m0 ⟨0,[],[],0,_,H,I₁,st₁,λb hb=>(hf b hb).1,hD0,hacc,.nil,w0⟩
  rintro n s' ⟨i,acc,its,k,σ',H',I',st',fr',hD',oD',rv',w'⟩;obtain⟨hlen,tt⟩:=turn i n acc σ' H' w'
  -- the gathered list,pinned
  have Ip:Inv Xb [(s.heap.objs.size,fR its k)] σ' H' s':=I'.pins_of λp hp=>by
   have e:p=(s.heap.objs.size,fR its k):=by simpa using hp
   subst e;exact⟨oD',hD',by rw[eL];exact hDC,hDs,λv z=>by cases z⟩
  have hpl:∀p∈[(s.heap.objs.size,fR its k)],p.1=s.heap.objs.size:=λp hp=>by
   have e:p=(s.heap.objs.size,fR its k):=by simpa using hp
   rw[e]
  rcases tt with⟨stop,q⟩ | ⟨go,N,hN,step⟩
  ·have d:=T.done Xb eP ew eK ec i _ s' σ' H' (λ_ _=>False) Ip (stat fr' hpl) st' stop
   rw[eA]at d;refine wpAny_mono d (λr s1 hr=>?_) λ_ _ z=>z;obtain⟨rfl,I1⟩:=hr;have oD1:s1.heap.get? s.heap.objs.size=some (fR its k):=(I1.pin _ (List.mem_append_right _ (JN.mpr rfl))).1;obtain⟨mC,hnC,_⟩:=I1.loc;rw[eL]at hnC;obtain⟨oC,_,_,hoC,_⟩:=id hnC;have hCH:H' H2.objs.size=none:=by have:=I1.free;rwa [eL]at this
   have ub:Un (lK X.stack) fp H H' s.heap s1.heap:=by have:=I1.base;rwa [ef,exx,eh,es]at this
   refine hRR _ _ s1 H' acc mC q hD' ?_ hnC ?_ ?_ ?_ ?_ ?_
   ·-- dA outside
    refine I.call' (ch:=fp) (by have:=I1.os;rwa [es]at this) ⟨λb o e n1 h1 h2=>ub.keep b o e n1 h1 h2,λb o e n1 h1 h2=>ub.slot b o e n1 h1 h2,λb o e n1 h1=>?_,ub.there,λb xs e=>?_,λb o u e=>?_,λb ps e=>?_⟩ ?_ (by have:=I1.bare;exact this) λb hb=>?_
    ·rw[ai (λz=>by rw[z]at e;exact absurd (J' e) (Ke _))]
     exact ub.free b o e n1 h1
    ·rw[ai (av (ub.tups b xs e) hD')]
     exact ub.tups b xs e
    ·rw[ai (av (ub.frzs b o u e) hD')]
     exact ub.frzs b o u e
    ·obtain⟨more,z⟩:=ub.tbls b ps e
     exact⟨more,by rw[ai (av z hD')];exact z⟩
    ·intro b u e
     have hokb:=I1.hok;rw[eP,ew]at hokb
     by_cases hb:b=s.heap.objs.size
     ·subst hb
      rw[ae]at e;cases e;exact⟨Nat.le_of_lt hlen,its,k,rv',oD1⟩
     ·rw[ai hb]at e
      refine(hokb b u e).stay (λc v _ z=>z) (λc z=>?_) λc xs z=>?_
      ·rw[ai (av z hD')];exact z
      ·rw[ai (av z hD')];exact z
    ·exact⟨(hf b hb).2.2.2.1,(hf b hb).2.1,(hf b hb).2.2.2.2.1,(hf b hb).2.2.2.2.2⟩
   ·rw[ai hDC.symm];exact hCH
   ·intro z;have:=I.lt;rw[<- z]at this;exact absurd this (Nat.not_lt.mpr hCle)
   ·exact Kd I.sz hCle
   ·intro x c e z
    obtain⟨v,o,ho,_⟩:=I.cell x c e;rw[z]at ho;exact absurd (J' ho) (Nat.not_lt.mpr hCle)
   ·intro p hp z
    have:=(I.pin p hp).1;rw[z]at this;exact absurd (J' this) (Nat.not_lt.mpr hCle)
  ·have d:=T.item Xb eP ew eK ec i _ s' σ' H' (λ_ _=>False) Ip (stat fr' hpl) st' go
   rw[eA]at d;refine wpAny_mono d (λr s1 hr=>?_) λ_ _ z=>z;obtain⟨u,rfl,d2⟩:=hr;refine wpAny_mono d2 (λ_ s2 hr2=>?_) λ_ _ z=>z;obtain⟨x,H2',I2,r2,y2,st2,fr2⟩:=hr2;have I2':=I2.pinned (stat fr2 hpl) (T.obj _ _ st2);have G:=hXb▸hg s H fp H2.objs.size;have d3:=G _ s2 σ' H2' x u _ I2' r2 (step x H2' y2);rw[eP,ew,eA,ex,eE]at d3;refine wpAny_mono d3 (λ_ s3 hr3=>?_) λ_ _ z=>z;obtain⟨σ3,H3,I3,q3⟩:=hr3;have Gi:=hXb▸hi s H fp H2.objs.size;have d4:=Gi _ s3 σ3 H3 _ I3 q3;rw[eP,ew,eA,ex,eE]at d4;refine wpAny_mono d4 (λb s4 hr4=>?_) λ_ _ z=>z;obtain⟨H4,I4,q4⟩:=hr4;have again:∀{s5:KJ} {H5:Hp} {σ5:St},Inv Xb ([(s.heap.objs.size,fR its k)]++oG fp s2.heap) σ5 H5 s5->s5.heap.get? s.heap.objs.size=some (fR its k)/\H5 s.heap.objs.size=none/\tn (i+1) s5.heap/\∀b∈fp,H5 b=none:=fun{s5 H5 σ5} I5=>by
    have pD:=I5.pin (s.heap.objs.size,fR its k) (List.mem_append_right _ (List.mem_append_left _ (JN.mpr rfl)));refine⟨pD.1,pD.2.1,T.keep _ _ _ st2 λb hb o e=>(I5.pin (b,o) (List.mem_append_right _ (List.mem_append_right _ (gM hb e)))).1,λb hb=>?_⟩;obtain⟨o,e,_⟩:=T.obj _ _ st2 b hb;exact(I5.pin (b,o) (List.mem_append_right _ (List.mem_append_right _ (gM hb e)))).2.1
   have bare:∀{s5:KJ} {H5:Hp} {σ5:St} {pl:KH},Inv Xb pl σ5 H5 s5->Inv Xb [] σ5 H5 s5:=λI5=>I5.pins_of λp hp=>nomatch hp;cases b with
   |false=>
    obtain⟨m',hm,w5⟩:=hN _ _ _ q4;obtain⟨a1,a2,a3,a4⟩:=again I4;exact⟨m',hm,i+1,acc,its,k,σ3,H4,bare I4,a3,a4,a2,a1,rv',w5⟩
   |true=>
    have Ge:=hXb▸he s H fp H2.objs.size;have d5:=Ge _ s4 σ3 H4 _ I4 q4;rw[eP,ew,eA,ex,eE]at d5;refine wpAny_mono d5 (λy s5 hr5=>?_) λ_ _ z=>z;obtain⟨v,H5,I5,r5,q5⟩:=hr5;obtain⟨m',hm,w5⟩:=hN _ _ _ q5;obtain⟨a1,a2,a3,a4⟩:=again I5;have hl:=rv'.length;refine call_meets F.slot_list_append ⟨_,a1,rfl⟩ F.entry_list_append (F.args_list_append_2 _ _) (PySem.list_append s.heap.objs.size its.toArray k y (by rw[JS];omega)) ⟨a1,?_⟩;have qu:=PySem.IsL.update a1 (λx_1=>x_1.push y);have qe:(its.toArray.push y)=(its++[y]).toArray:=by simp
    rw[qe]at qu;have I6:Inv Xb [] σ3 H5 {s5 with heap:=s5.heap.update s.heap.objs.size (Obj.mapSeq λx_1=>x_1.push y),toks:=s5.toks}:=
     (bare I5).turned (λb o hb e=>(JQ s5.heap _ (Ne.symm hb)).trans e) a2 (by rw[eL];exact hDC) (.inr (by rw[es];exact J8 _)) hDcell (by rw[ep];intro p hp;exact nomatch hp)
    refine⟨m',hm,i+1,acc++[v],its++[y],_,σ3,H5,I6,T.keep _ _ _ a3 (λb hb o e=>(JQ s5.heap _ (hDf b hb).symm).trans e),a4,a2,qu,rv'.append (.cons r5 .nil),w5⟩
 refine codeAny_compStart_list (loop _ rfl) ?_;exact T.self _ 0 _ _ _ st₁ (loop _ rfl)
theorem c5{elt tg iter:Expr}{ifs:KW}{scope:Scope}{pos:Pos}(own:KQ)(js:KI){wi:TI}{g:TG}{ti:TT}{te:TE}(hc:X.calm=true)(hk:bH scope X.env.scope)
  (hcap:(js.all λj=>scope.names.contains (X.N.getD j Str.empty,NameKind.free))=true) (hw:PI X tg iter wi)
  (hg:∀s H fp C,PG (X.blk (ot own js X.N) s H scope fp C) tg g) (hi:∀s H fp C,F1 (X.blk (ot own js X.N) s H scope fp C) ifs ti) (he:∀s H fp C,PE (X.blk (ot own js X.N) s H scope fp C) elt te)
  (hs:autoParam (∀x,foldedSetIterable iter X.env x=pure x) zz4._auto_1):PE X (.ListComp elt [⟨tg,iter,ifs,0⟩] scope pos) (xQ own.length js wi g ti te):=by
 intro pins s σ H Q I h;rw[eval_ListComp];refine wpAny_comprehension_free (use:=none) rfl hs (io (I.capFree hk)) hk.kind hk.loc (bU (hw pins s σ H _ I h) λv s1 h1=>bU h1 λitv s2 h2=>?_);obtain⟨it,fp,tn,J,H2,rfl,I2,T,st2,f2,hW⟩:=h2;refine qt (RR:=λacc C=>compPost (model X.prog X.w) X.A X.xe none (EP X pins σ Q) acc C) (Q:=λacc H'=>∀l,H' l=none->Q (.ref l) (aC H' l (.lst acc))) hc hk hcap hg hi he I2 T st2 f2 hW ?_;intro D C s' H' acc m q hD I' hn hC0 hCL hCs hCc hCp;refine⟨m,hn,λh' sb=>?_⟩;exact⟨.ref D,_,I'.turned (t':=s'.toks) (λb o hb e=>(sb.2 b hb).trans e) hC0 hCL (.inr hCs) hCc hCp,rfl,q D hD⟩
theorem gH{i:Nat}{x:Str}{elt tg iter:Expr}{ifs:KW}{scope:Scope}{pos spos:Pos}{px:Pos}(own:KQ)(js:KI){wi:TI}{g:TG}{ti:TT}{te:TE}(hN:X.N.Nodup)(hxi:X.N[i]?=some x)(hx:Loc X.env.scope x)
  (hsw:swapsWith (.ListComp elt [⟨tg,iter,ifs,0⟩] scope pos) (some (.Name x px)) spos.line X.env=pure true)
  (hc:X.calm=true) (hk:bH scope X.env.scope)
  (hcap:(js.all λj=>scope.names.contains (X.N.getD j Str.empty,NameKind.free))=true) (hw:PI X tg iter wi)
  (hg:∀s H fp C,PG (X.blk (ot own js X.N) s H scope fp C) tg g) (hi:∀s H fp C,F1 (X.blk (ot own js X.N) s H scope fp C) ifs ti) (he:∀s H fp C,PE (X.blk (ot own js X.N) s H scope fp C) elt te)
  (hs:autoParam (∀x,foldedSetIterable iter X.env x=pure x) zz4._auto_1) (hf:autoParam (X.fn x=true\/X.env.scope.names.lookup x=some .local) zz3._auto_1) :
  PS X (.Assign [.Name x px] (.ListComp elt [⟨tg,iter,ifs,0⟩] scope pos) spos) (zL (xQ own.length js wi g ti te) (j8 i)):=by
 intro pins s σ H Dn I h;rw[exec_Assign_Name_used _ _ _ _ hsw];refine wpAny_bind (wpAny_standAt (wpAny_bind ?_));show wpAny _ _ (do let _ <- comprehension (.ListComp elt [⟨tg,iter,ifs,0⟩] scope pos) scope X.env _ (newList []) false (eval iter X.env) (some (assign (.Name x px) X.env))) _ _ s;refine wpAny_bind (wpAny_mono (wpAny_comprehension_free (use:=some (assign (.Name x px) X.env)) (Q:=λ_ s'=>SP X pins Dn .next s') (E:=X.xe) rfl hs (io (I.capFree hk)) hk.kind hk.loc ?_) (λ_ s' q=>wpAny_pure (wpAny_pure q)) λ_ _ z=>z);refine(bU (hw pins s σ H _ I h) λv s1 h1=>bU h1 λitv s2 h2=>?_);obtain⟨it,fp,tn,J,H2,rfl,I2,T,st2,f2,hW⟩:=h2;refine qt (RR:=λacc C=>compPost (model X.prog X.w) X.A X.xe (some (assign (.Name x px) X.env)) (λ_ s'=>SP X pins Dn .next s') acc C) (Q:=λacc H'=>∀l,H' l=none->j8 i (.ref l) σ (aC H' l (.lst acc)) Dn.nx) hc hk hcap hg hi he I2 T st2 f2 hW ?_;intro D C s' H' acc m q hD I' hn hC0 hCL hCs hCc hCp;show wpAny _ _ (assign (.Name x px) X.env (.ref D)) _ _ s';refine wpAny_assign_Name (pU I' hN hxi hx (v:=.ref D) rfl (λs'' I'' sb=>?_) hf);obtain⟨a,sb,ha⟩:=sb;have hCa:C≠a:=by
  rcases ha with z | z
  ·rw[z];exact hCL
  ·exact(hCc x a z).symm
 refine⟨m,hn.sameBut sb hCa,λh' sb'=>?_⟩;exact⟨_,_,I''.turned (t':=s''.toks) (λb o hb e=>(sb'.2 b hb).trans e) hC0 hCL (.inr hCs) hCc hCp,q D hD⟩
end
section
variable {K:KG}{g:TG}{ti:TT}{te:TE}{σ:St}{H:Hp}{Q:List V->Hp->Prop}
theorem j9{J:It}{n:Nat}(Pv:Nat->List V->St->Hp->Prop)(h0:Pv 0 [] σ H)(hz:∀i acc σ H,Pv i acc σ H->acc.length<sizeLine)(hi:∀i acc σ H,Pv i acc σ H->i<=n)
  (stop:∀acc σ H,Pv n acc σ H->J.stop n H) (go:∀i acc σ H,i<n->Pv i acc σ H->J.go i H)
  (hs:∀i x acc σ H H2,i<n->Pv i acc σ H->J.yld i H x H2->g x σ H2 λσ2 H3=>ti σ2 H3 λb H4=>if b=true then te σ2 H4 λv H5=>Pv (i+1) (acc++[v]) σ2 H5 else Pv (i+1) acc σ2 H4)
  (he:∀acc σ H,Pv n acc σ H->Q acc H) :
  g_ J g ti te σ H Q:=by
 refine⟨λi m acc σ H=>Pv i acc σ H/\m=n+1-i,⟨n+1,h0,rfl⟩,?_⟩;rintro i m acc σ' H' ⟨w,rfl⟩;refine⟨hz i acc σ' H' w,?_⟩;have hle:=hi i acc σ' H' w;rcases Nat.lt_or_ge i n with hlt | hge
 ·refine .inr ⟨go i acc σ' H' hlt w,λacc' σ2 H2=>Pv (i+1) acc' σ2 H2,λacc' σ2 H2 w2=>⟨n+1-(i+1),?_,w2,rfl⟩,λx H2 y=>hs i x acc σ' H' H2 hlt w y⟩
  have:=hi (i+1) acc' σ2 H2 w2;omega
 ·have e:i=n:=by omega
  subst e;exact .inl ⟨stop acc σ' H' w,he acc σ' H' w⟩
theorem dJ{a:Addr}{xs:List V}(Pv:Nat->List V->St->Hp->Prop)(h0:Pv 0 [] σ H)(hz:∀i acc σ H,Pv i acc σ H->acc.length<sizeLine)(hi:∀i acc σ H,Pv i acc σ H->i<=xs.length)
  (hl:∀i acc σ H,Pv i acc σ H->aQ K H a xs)
  (hs:∀i x acc σ H,xs[i]?=some x->Pv i acc σ H->g x σ H λσ2 H3=>ti σ2 H3 λb H4=>if b=true then te σ2 H4 λv H5=>Pv (i+1) (acc++[v]) σ2 H5 else Pv (i+1) acc σ2 H4)
  (he:∀acc σ H,Pv xs.length acc σ H->Q acc H):g_ (BB K a) g ti te σ H Q:=by
 exact j9 (J:=BB K a) (g:=g) (ti:=ti) (te:=te) (Q:=Q) (n:=xs.length) Pv h0 hz hi (λacc σ H w=>⟨xs,hl _ _ _ _ w,J8 _⟩)
  (λi acc σ H hlt w=>⟨xs,xs[i],hl _ _ _ _ w,JJ hlt⟩) (λi x acc σ H H2 hlt w y=>by obtain⟨rfl,hx⟩:=y;exact hs i x acc σ H2 (hx xs (hl _ _ _ _ w)) w) he
theorem oS{lo:Int}{n:Nat}(Pv:Nat->List V->St->Hp->Prop)(h0:Pv 0 [] σ H)(hz:∀i acc σ H,Pv i acc σ H->acc.length<sizeLine)(hi:∀i acc σ H,Pv i acc σ H->i<=n)
  (hs:∀i acc σ H,i<n->Pv i acc σ H->g (.int (lo+i)) σ H λσ2 H3=>ti σ2 H3 λb H4=>if b=true then te σ2 H4 λv H5=>Pv (i+1) (acc++[v]) σ2 H5 else Pv (i+1) acc σ2 H4)
  (he:∀acc σ H,Pv n acc σ H->Q acc H):g_ (zI lo n) g ti te σ H Q:=by
 exact j9 (J:=zI lo n) (g:=g) (ti:=ti) (te:=te) (Q:=Q) (n:=n) Pv h0 hz hi (λacc σ H w=>J8 _) (λi acc σ H hlt w=>hlt) (λi x acc σ H H2 hlt w y=>by obtain⟨rfl,rfl⟩:=y;exact hs i acc σ H2 hlt w) he
end
structure dL(P:KP)(w:KS)(K:KG)(mg:KN)(base:Heap)(CX:ir)(k:Nat)(x:Str)(ps:KQ)(sp:Sp):Prop where
 ex:∃(f:Addr) (fd:KO),aR P w K mg base CX k f fd ps sp/\mg x=some (.ref f)/\PySem.W.keepIn K (.ref f)=true/\dF K fd ps []
structure NB(mg:KN):Prop where
 len:mg "len"=none
 range:mg "range"=none
 list:mg "list"=none
 tuple:mg "tuple"=none
 isinstance:mg "isinstance"=none
 int:mg "int"=none
 bool:mg "bool"=none
 str:mg "str"=none
 reversed:mg "reversed"=none
 all:mg "all"=none
 enumerate:mg "enumerate"=none
 zip:mg "zip"=none
 sorted:mg "sorted"=none
 set:mg "set"=none
 dict:mg "dict"=none
 min:mg "min"=none
 max:mg "max"=none
 sum:mg "sum"=none
 ValueError:mg "ValueError"=none
section
variable {X:Cx}{CX:ir}{k:Nat}{x:Str}{ps:KQ}{sp:Sp}{E:XK}{p pos:Pos}{e:Expr}{es:KW}{t:TA}
theorem aE(C:dL X.prog X.w X.K X.mg X.base CX k x ps sp)(hr:cw k X.A)(hg:Gl X x)(hx:cJ CX X E)(ha:PA X (e::es) t)(hdb:autoParam ((x==("__debug__":Str))=false) zz2._auto_1)
  (hst:autoParam (starEach (e::es) X.env=(false,eval e X.env)::starEach es X.env) zz0._auto_1) (hpl:autoParam ((backTo pos (starEach es X.env)).any (·.1)=false) zz0._auto_1):PE X (.Call (.Name x p) (e::es) [] pos) (l_ sp [] E t):=by
 obtain⟨f,fd,F,hm,hk,hb⟩:=C.ex;exact wW F hr hg hm hk hb .nil hx ha hdb hst hpl
end
section
variable {X:Cx}{tg:Expr}
def BC(_ j:Int):Prop:=0<j/\j<18446744073709551616
theorem cj:bx X (binaryOp .FloorDiv) (rI BC λi j=>.int (i/j)):=GX λi j _ _ _ _ _ hc q=>by
 have h1:(0:Int)<j:=hc.1;have h2:j<18446744073709551616:=hc.2;refine floordiv_int ⋯ (by rw[Int.fdiv_eq_ediv_of_nonneg i ⋯];exact q) (.inl (PyProof.noPylong_of_log2 ?_));have h64:j.natAbs.log2<64:=(Nat.log2_lt ⋯).mpr ⋯;omega
theorem gF:∀{ys:KQ} {us:KL},aW (ys.map V.str) us->StrsAre us ys
 | [],_,.nil=>.nil
 |y::ys,_,.cons r t=>by
  obtain⟨tk,rfl⟩:=r;exact .cons y tk (gF t)
def wX(K:KG):V->List V->Hp->VK->Prop:=λx xs H Q=>∃z p ys,x=.str z/\xs=[.ref p]/\(aQ K H p (ys.map V.str)\/jv K H p (ys.map V.str))/\(ys.map (·.length)).sum+ys.length*z.length<=16777216/\Q (.str (Txt.join z ys)) H
theorem Cd:GA X "str.join" (wX X.K):=by
 intro pins s σ H x xs v us Q I rx rv h;obtain⟨z,p,ys,rfl,rfl,hs,hz,q⟩:=h;obtain⟨t,rfl⟩:=rx;obtain⟨u,rfl,ru⟩:=rv.one;cases ru;rcases hs with hs | hs
 ·obtain⟨its,r,pl,_⟩:=I.list hs
  exact join_list pl.isList (by simpa using gF r) hz λt' k=>⟨.str _,H,I.tok k,⟨t',rfl⟩,q⟩
 ·obtain⟨its,r,pl,_⟩:=I.tuple hs
  exact join_tuple pl (by simpa using gF r) hz λt' k=>⟨.str _,H,I.tok k,⟨t',rfl⟩,q⟩
def Fg(x:Str):It:=⟨λi _=>i<x.cps.size,λi H v H'=>H'=H/\∃c,x.cps[i]?=some c/\v=.str ⟨#[c]⟩,λi _=>x.cps.size<=i⟩
theorem AV{P:KP}{w:KS}{K:KG}{tg:Expr}(x:Str)(t:Tok)(it:Addr):v3 P w K tg (Fg x) [it] it (λi h=>h.IsStrIter it (strIterType x) x t i) where
 mem:=by simp
 obj:=λi h st b hb=>by
  have e:b=it:=by simpa using hb
  subst e;obtain⟨o,e,c,d⟩:=st;exact⟨o,e,λv z=>by rw[d]at z;cases z⟩
 keep:=λi h h' st k=>by
  obtain⟨o,e,c,d⟩:=st;exact⟨o,k it (by simp) o e,c,d⟩
 item:=by
  intro X hP hw hK hc i pins s σ H E I hf st hg;subst hP hw hK;obtain⟨f0,f1,f2,f3,f4,f5⟩:=hf it (by simp);have hi:i<x.cps.size:=hg;have hx:x.cps[i]?=some x.cps[i]:=Array.getElem?_eq_getElem hi;have fin:∀h',h'.IsStrIter it (strIterType x) x t (i+1)->Heap.SameBut it s.heap h'->∃u,(some (Value.str ⟨#[x.cps[i]]⟩ s.toks))=some u /\
    wpAny (model X.prog X.w) X.A (letOwnedTupleGo tg (.ref it) u) (λ_ s2=>∃v H',Inv X pins σ H' s2/\bf v u/\(Fg x).yld i H v H'/\s2.heap.IsStrIter it (strIterType x) x t (i+1)/\∀b∈[it],H' b=none) E {s with heap:=h',toks:=s.toks+1}:=λh' st' sb=>by
   have I1:Inv X pins σ H {s with heap:=h',toks:=s.toks+1}:=I.turned (λb o hb e=>(sb.2 b hb).trans e) f0 f1 f3 f4 f5;obtain⟨o,e,c,d⟩:=id st';refine⟨_,rfl,xb (s:={s with heap:=h',toks:=s.toks+1}) e c d ?_ ⟨.str ⟨#[x.cps[i]]⟩,H,I1,⟨_,rfl⟩,⟨rfl,_,hx,rfl⟩,st',λb hb=>(hf b hb).1⟩⟩;unfold strIterType
   split<;>decide
  cases ha:x.cps.all (· < 128) with
  |true=>
   have ety:strIterType x="str_ascii_iterator":=by unfold strIterType;rw[ha];rfl
   rw[ety]at st fin ⊢;exact wpAny_pyNext_ascii_item st hx fin
  |false=>
   have ety:strIterType x="str_iterator":=by unfold strIterType;rw[ha];rfl
   rw[ety]at st fin ⊢;exact wpAny_pyNext_wide_item st hx fin
 done:=by
  intro X hP hw hK hc i pins s σ H E I hf st hg;subst hP hw hK;obtain⟨f0,f1,f2,f3,f4,f5⟩:=hf it (by simp);have hi:x.cps.size<=i:=hg;have hx:x.cps[i]?=none:=Array.getElem?_eq_none hi;cases ha:x.cps.all (· < 128) with
  |true=>
   have ety:strIterType x="str_ascii_iterator":=by unfold strIterType;rw[ha];rfl
   rw[ety]at st;exact wpAny_pyNext_ascii_end (I.ok.hd hc) st hx λh' eb=>⟨rfl,I.turned (t':=s.toks) (λb o hb e=>eb b o hb e) f0 f1 f3 f4 f5⟩
  |false=>
   have ety:strIterType x="str_iterator":=by unfold strIterType;rw[ha];rfl
   rw[ety]at st;exact wpAny_pyNext_wide_end (I.ok.hd hc) st hx λh' eb=>⟨rfl,I.turned (t':=s.toks) (λb o hb e=>eb b o hb e) f0 f1 f3 f4 f5⟩
 self:=λA i s Q E st h=>by
  cases ha:x.cps.all (· < 128) with
  |true=>
   have ety:strIterType x="str_ascii_iterator":=by unfold strIterType;rw[ha];rfl
   rw[ety]at st;exact wpAny_pyIter_striter_ascii st h
  |false=>
   have ety:strIterType x="str_iterator":=by unfold strIterType;rw[ha];rfl
   rw[ety]at st;exact wpAny_pyIter_striter_wide st h
def EU(tl:TE):TI:=λσ H R=>tl σ H λv H1=>∃x,v=.str x/\R (Fg x) H1
theorem Aa{l:Expr}{tl:TE}(hl:PE X l tl):PI X tg l (EU tl):=by
 intro pins s σ H R I h;refine bU (hl pins s σ H _ I h) λv s1 ⟨x,H1,I1,r1,q1⟩=>?_;obtain⟨x,rfl,q⟩:=q1;obtain⟨t,rfl⟩:=r1;refine wpAny_pyIter_strU ?_;refine⟨s1.heap.objs.size,[s1.heap.objs.size],_,_,H1,rfl,I1.kept (t':=s1.toks) λb o e=>JL _ e,AV x t _,⟨_,JR _ rfl,rfl,rfl⟩,λb hb=>?_,q⟩;have e:b=s1.heap.objs.size:=by simpa using hb
 subst e;exact I1.fpOk (J8 _) (I1.hok.fresh (J8 _))
def F6(K:KG)(a:Addr)(n:Nat):It:=
 ⟨λi H=>∃xs x,aQ K H a xs/\i<n/\xs[n-1-i]?=some x,λi H x H'=>H'=H/\∀xs,aQ K H a xs->xs[n-1-i]?=some x,λi _=>i=n⟩
theorem Ag{P:KP}{w:KS}{K:KG}{tg:Expr}(a it:Addr)(n:Nat):v3 P w K tg (F6 K a n) [it] it (λi h=>h.IsRevIter it a ((n:Int)-1-(i:Int))) where
 mem:=by simp
 obj:=λi h st b hb=>by
  have e:b=it:=by simpa using hb
  subst e;obtain⟨o,e,c,d⟩:=st;exact⟨o,e,λv z=>by rw[d]at z;cases z⟩
 keep:=λi h h' st k=>st.at λo e=>k it (by simp) o e
 item:=by
  intro X hP hw hK hc i pins s σ H E I hf st hg;subst hP hw hK;obtain⟨xs,x,hq,hi,hx⟩:=hg;obtain⟨its,rv,p,hz⟩:=I.list hq;obtain⟨u,hu,ru⟩:=rv.get hx;obtain⟨f0,f1,f2,f3,f4,f5⟩:=hf it (by simp);have e:(n:Int)-1-(i:Int)=((n-1-i:Nat):Int):=by omega
  have st1:=st;rw[e]at st1;refine wpAny_pyNext_rev_item st1 p.isList (x:=u) (by simpa using hu) λh' st' sb=>?_;have e2:((n-1-i:Nat):Int)-1=(n:Int)-1-((i+1:Nat):Int):=by omega
  rw[e2]at st';have I1:Inv X pins σ H {s with heap:=h' }:=I.turned (t':=s.toks) (λb o hb e=>(sb.2 b hb).trans e) f0 f1 f3 f4 f5;obtain⟨o,e,c,d⟩:=id st';exact⟨u,rfl,xb (s:={s with heap:=h' }) e c d nofun ⟨x,H,I1,ru,⟨rfl,λys hy=>by rw[I.list_inj hy hq];exact hx⟩,st',λb hb=>(hf b hb).1⟩⟩
 done:=by
  intro X hP hw hK hc i pins s σ H E I hf st hg;subst hP hw hK;obtain⟨f0,f1,f2,f3,f4,f5⟩:=hf it (by simp);have hi:i=n:=hg;subst hi;have e:(i:Int)-1-(i:Int) = -1:=by omega
  rw[e]at st;exact wpAny_pyNext_rev_end (I.ok.hd hc) st λh' eb=>⟨rfl,I.turned (t':=s.toks) (λb o hb e=>eb b o hb e) f0 f1 f3 f4 f5⟩
 self:=λ_ _ _ _ _ st h=>wpAny_pyIter_revIter st h
def Em(K:KG)(ta:TA):TI:=λσ H R=>ta σ H λvs H1=>∃a xs,vs=[.ref a]/\aQ K H1 a xs/\R (F6 K a xs.length) H1
theorem Ey{a:Expr}{ta:TA}{p pos:Pos}(hg:Gl X "reversed")(hm:X.mg "reversed"=none)(ha:PA X [a] ta)(hs:autoParam (starEach [a] X.env=[(false,eval a X.env)]) zz0._auto_1):PI X tg (.Call (.Name "reversed" p) [a] [] pos) (Em X.K ta):=by
 intro pins s σ H R I h;refine Call_ (fg I hg hm boot_reversed (PyProof.Rows.callWith_type1 (bU (ha pos pins s σ H _ I h) λus s1 ⟨vs,H1,I1,r1,q1⟩=>?_) hs rfl));obtain⟨l,xs,rfl,hq,q⟩:=q1;obtain⟨u,rfl,ru⟩:=r1.one;cases ru;obtain⟨its,rv,pl,hz⟩:=I1.list hq;have hlen:=rv.length;refine call_reversed_list pl.isList ?_;have es:its.toArray.size=xs.length:=by rw[JS,hlen]
 rw[es];have I2:Inv X pins σ H1 {s1 with heap:=s1.heap.push (revObj l ((xs.length:Int)-1))}:=I1.kept (t':=s1.toks) λb o e=>JL _ e;have st:(s1.heap.push (revObj l ((xs.length:Int)-1))).IsRevIter s1.heap.objs.size l ((xs.length:Int)-1-((0:Nat):Int)):=⟨_,JR _ rfl,rfl,by simp[revObj]⟩;refine wpAny_pyIter_revIter st ?_;refine⟨s1.heap.objs.size,[s1.heap.objs.size],_,_,H1,rfl,I2,Ag l _ xs.length,st,λb hb=>?_,q⟩;have e:b=s1.heap.objs.size:=by simpa using hb
 subst e;exact I1.fpOk (J8 _) (I1.hok.fresh (J8 _))
def EA:V->Option Int->Option Int->Hp->VK->Prop:=λx lo hi H Q=>∃z,x=.str z/\z.length<=sizeLine/\Q (.str (Txt.slice z lo hi)) H
theorem qV:GW X EA:=by
 intro pins s σ H x v vl vu lo hi sl Q I rx hs pl pu h;obtain⟨z,rfl,hz,q⟩:=h;obtain⟨t,rfl⟩:=rx;have fin:∀t' k,EP X pins σ Q (.str (Txt.slice z lo hi) t') {s with toks:=k}:=λt' k=>⟨.str _,H,I.tok k,⟨t',rfl⟩,q⟩;refine⟨"str",_,F.slot_str_getitem.lookup,typeIs_str _ _ _,?_⟩;cases pl with
 |none=>
  cases pu with
  |none=>exact wpAny_getItem_str_slice (l:=none) (u:=none) (st:=none) hs rfl (post_val_or_str ⟨Kd (Txt.slice_le z _ _) hz,fin⟩)
  |int j uj=>exact wpAny_getItem_str_slice (l:=none) (u:=some (j,uj)) (st:=none) hs rfl (post_val_or_str ⟨Kd (Txt.slice_le z _ _) hz,fin⟩)
 |int i ui=>
  cases pu with
  |none=>exact wpAny_getItem_str_slice (l:=some (i,ui)) (u:=none) (st:=none) hs rfl (post_val_or_str ⟨Kd (Txt.slice_le z _ _) hz,fin⟩)
  |int j uj=>exact wpAny_getItem_str_slice (l:=some (i,ui)) (u:=some (j,uj)) (st:=none) hs rfl (post_val_or_str ⟨Kd (Txt.slice_le z _ _) hz,fin⟩)
def GH(sep:Str)(ta:TA):TE:=λσ H Q=>ta σ H λvs H1=>∃x,vs=[.str x]/\x.length<=1000/\sep.length<=1000/\Q (.str (Txt.join sep (x.cps.toList.reverse.map λc=>(⟨#[c]⟩:Str)))) H1
theorem wo{e:Expr}{ta:TA}{sep:Str}{j:Nat}{p0 ap p1 p2 cpos:Pos}(hc:X.calm=true)(hg:Gl X "reversed")(hm:X.mg "reversed"=none)(ha:PA X [e] ta)
  (hfew:autoParam (((backTo cpos (starEach [.Call (.Name "reversed" p1) [e] [] p2] X.env)).all (λx=>!x.1)&&(backToKw cpos (keywordEach [] X.env)).all (λx=>x.1.isSome)
   && decide ([Expr.Call (.Name "reversed" p1) [e] [] p2].length+([]:List Keyword).length+(if([]:List Keyword).isEmpty then 0 else 1)<30))=true) zz0._auto_1)
  (hline:autoParam ((ap.endLine==cpos.line)=true) zz0._auto_1) (hs:autoParam (starEach [e] X.env=[(false,eval e X.env)]) zz0._auto_1) :
  PE X (.Call (.Attribute (.Constant (.str sep) j p0) "join" ap) [.Call (.Name "reversed" p1) [e] [] p2] [] cpos) (GH sep ta):=by
 intro pins s σ H Q I h;refine wpAny_Call_method_late rfl hfew hline rfl (bU (n0 (X:=X) pins s σ H (λv H1=>v=.str sep/\H1=H) I ⟨rfl,rfl⟩) λv s1 ⟨x,H1,I1,r1,hx⟩=>?_);obtain⟨rfl,rfl⟩:=hx;obtain⟨t0,rfl⟩:=r1;refine⟨"str",_,F.plainAttrs_str,F.slot_str_join,F.type_str_join,typeIs_str _ _ _,(λa z=>nomatch z),?_⟩;refine Calls.callWith_builtin rfl (Calls.evalArgs_plain ?_);show wpAny _ _ (spliced ((false,eval (.Call (.Name "reversed" p1) [e] [] p2) X.env)::[])) _ _ s1;refine Calls.spliced_cons ?_;refine Call_ (fg I1 hg hm boot_reversed (PyProof.Rows.callWith_type1 (bU (ha p2 pins s1 σ H1 _ I1 h) λus s2 ⟨vs,H2,I2,r2,q2⟩=>?_) hs rfl));obtain⟨x,rfl,hz,hsp,q⟩:=q2;obtain⟨u,rfl,ru⟩:=r2.one;obtain⟨t,rfl⟩:=ru;have hsl:sizeLine=16777216:=sizeLine_eq;refine ku ⋯ (Calls.spliced_nil ?_);have I3:Inv X pins σ H2 {s2 with heap:=s2.heap.push (vB x t ((x.length:Int)-1)),toks:=s2.toks+1+1}:=I2.kept λb o e=>JL _ e;have fp:=I2.fpOk (b:=s2.heap.objs.size) (H':=H2) (J8 _) (I2.hok.fresh (J8 _));obtain⟨f0,f1,f2,f3,f4,f5⟩:=fp;refine AN (I3.ok.hd hc) (I:=s2.heap.objs.size) (x:=x) (t:=t) ⟨_,JR _ rfl,rfl,rfl⟩ hz hsp λs' t' k keep eg ed eo=>?_;obtain⟨h',g',d',k',o'⟩:=s';cases eg;cases ed;cases eo;exact⟨.str _,H2,I3.turned (t':=k) (λb o hb e=>keep b o hb e) f0 f1 f3 f4 f5,⟨t',rfl⟩,q⟩
def Ck:V->Value
 | .ty n=>.type n
 | .ref a=>.ref a
 |_=>.none
def rK:V->Bool
 | .ty _=>true
 | .ref _=>true
 |_=>false
theorem Cu{c:V}{u:Value}(r:bf c u)(h:rK c=true):u=Ck c:=by
 cases c with
 |ty n=>exact r
 |ref a=>exact r
 |_=>cases h
def CL(K:KG):List V->Hp->VK->Prop:=λxs H Q=>∃x c t b,xs=[x,c]/\rK c=true/\i' K H x t/\PySem.W.kitOne K t (Ck c)=some b/\Q (.bl b) H
theorem dq:g8 X (.builtin "isinstance") (CL X.K):=by
 intro pins s σ H xs us Q I r h;obtain⟨x,c,t,b,rfl,hc,ty,e,q⟩:=h;obtain⟨u,v,rfl,ru,rv⟩:=r.two;rw[Cu rv hc];exact xX I ru ty e λtk=>⟨.bl b,H,I.tok tk,rfl,q⟩
theorem B8(K:KG)(n:String):PySem.W.kitOne K (.type n) (.type n)=some true:=by
 unfold PySem.W.kitOne;rw[if_pos (beq_self_eq_true _)]
inductive Dt where
 |non | bl (b:Bool) | int (i:Int) | str (x:Str) | lst (ds:List Dt) | tup (ds:List Dt)
mutual
def mT(K:KG)(H:Hp):Dt->V->Prop
 | .non,v=>v=.non
 | .bl b,v=>v=.bl b
 | .int i,v=>v=.int i
 | .str x,v=>v=.str x
 | .lst ds,v=>∃a xs,v=.ref a/\aQ K H a xs/\gQ K H ds xs
 | .tup ds,v=>∃a xs,v=.ref a/\jv K H a xs/\gQ K H ds xs
def gQ(K:KG)(H:Hp):List Dt->List V->Prop
 | [],xs=>xs=[]
 |d::ds,xs=>∃x r,xs=x::r/\mT K H d x/\gQ K H ds r
end
mutual
def Dt.dep:Dt->Nat
 | .lst ds=>Dt.deps ds+1
 | .tup ds=>Dt.deps ds+1
 |_=>0
def Dt.deps:List Dt->Nat
 | []=>0
 |d::ds=>max (Dt.dep d) (Dt.deps ds)
end
theorem gQ.length{K:KG}{H:Hp}:∀{ds:List Dt} {xs:List V},gQ K H ds xs->xs.length=ds.length
 | [],_,h=>by unfold gQ at h;rw[h];rfl
 |d::ds,xs,h=>by
  unfold gQ at h;obtain⟨x,r,rfl,_,h2⟩:=h;simp[gQ.length h2]
theorem gQ.get{K:KG}{H:Hp}:∀{ds:List Dt} {xs:List V} {j:Nat} {x:V},gQ K H ds xs->xs[j]?=some x->∃d,ds[j]?=some d/\mT K H d x
 | [],_,_,_,h,e=>by unfold gQ at h;rw[h]at e;simp at e
 |d::ds,xs,j,x,h,e=>by
  unfold gQ at h;obtain⟨y,r,rfl,h1,h2⟩:=h;cases j with
  |zero=>simp at e;subst e;exact⟨d,rfl,h1⟩
  |succ j=>
   obtain⟨d',e1,e2⟩:=gQ.get (j:=j) h2 (by simpa using e);exact⟨d',by simpa using e1,e2⟩
theorem ip:∀{ds:List Dt} {j:Nat} {d:Dt},ds[j]?=some d->d.dep<=Dt.deps ds
 | [],_,_,e=>by simp at e
 |d'::ds,0,d,e=>by simp at e;subst e;unfold Dt.deps;omega
 |d'::ds,j+1,d,e=>by
  have:=ip (ds:=ds) (j:=j) (by simpa using e);unfold Dt.deps;omega
theorem gw(n:Nat):(List.range n).all (λ_=>true)=true:=by simp
theorem zQ{pins:KH}{σ:St}{H:Hp}{s:KJ}(I:Inv X pins σ H s):∀(n:Nat) (d:Dt) (A:KR) {v u:V} {vv uu:Value},d.dep<=n->A.units+n<cLine->mT X.K H d v->mT X.K H d u->bf v vv->bf u uu->SeqAt.EqAt A s vv uu true:=by
 intro n
 induction n with
 |zero=>
  intro d A v u vv uu hd hA h1 h2 r1 r2;cases d with
  |non=>unfold mT at h1 h2;subst h1 h2;have:=iF (A:=A) (s:=s) r1 r2 rfl rfl;exact this
  |bl b=>unfold mT at h1 h2;subst h1 h2;have:=iF (A:=A) (s:=s) r1 r2 rfl rfl;simpa[D_]using this
  |int i=>unfold mT at h1 h2;subst h1 h2;have:=iF (A:=A) (s:=s) r1 r2 rfl rfl;simpa[D_]using this
  |str x=>unfold mT at h1 h2;subst h1 h2;have:=iF (A:=A) (s:=s) r1 r2 rfl rfl;simpa[D_]using this
  |lst ds=>unfold Dt.dep at hd;omega
  |tup ds=>unfold Dt.dep at hd;omega
 |succ n ih=>
  intro d A v u vv uu hd hA h1 h2 r1 r2;cases d with
  |non=>unfold mT at h1 h2;subst h1 h2;have:=iF (A:=A) (s:=s) r1 r2 rfl rfl;exact this
  |bl b=>unfold mT at h1 h2;subst h1 h2;have:=iF (A:=A) (s:=s) r1 r2 rfl rfl;simpa[D_]using this
  |int i=>unfold mT at h1 h2;subst h1 h2;have:=iF (A:=A) (s:=s) r1 r2 rfl rfl;simpa[D_]using this
  |str x=>unfold mT at h1 h2;subst h1 h2;have:=iF (A:=A) (s:=s) r1 r2 rfl rfl;simpa[D_]using this
  |lst ds=>
   unfold mT at h1 h2;obtain⟨a,xs,rfl,ha,hxs⟩:=h1;obtain⟨b,ys,rfl,hb,hys⟩:=h2;cases r1;cases r2
   by_cases hab:a=b
   ·subst hab;exact SeqAt.EqAt.same _
   ·unfold Dt.dep at hd
    obtain⟨its,ra,pa,_⟩:=I.list ha;obtain⟨its2,rb,pb,_⟩:=I.list hb;have l1:=ra.length;have l2:=rb.length;have l3:=hxs.length;have l4:=hys.length
    have hsz:its.toArray.size=its2.toArray.size:=by simp;omega
    have q:=SeqAt.RcAt.lists (A:=A) (s:=s) (e:=λ_=>true) pa.isList pb.isList hsz ⋯ λj g1 g2=>by
     have g1':j<its.length:=by simpa using g1
     have g2':j<its2.length:=by simpa using g2
     have x1:xs[j]?=some xs[j]:=JJ ⋯;have y1:ys[j]?=some ys[j]:=JJ ⋯;obtain⟨d,e1,rd1⟩:=hxs.get x1;obtain⟨d',e2,rd2⟩:=hys.get y1;rw[e1]at e2;cases e2
     obtain⟨w1,f1,rr1⟩:=ra.get x1;obtain⟨w2,f2,rr2⟩:=rb.get y1;rw[JJ g1']at f1;rw[JJ g2']at f2;cases f1;cases f2
     have hdep:=ip e1;simp only[Kw];exact ih d A.in1 ⋯ (by show A.units+1+n<cLine;omega) rd1 rd2 rr1 rr2
    rw[gw]at q;exact SeqAt.EqAt.of_refs hab q
  |tup ds=>
   unfold mT at h1 h2;obtain⟨a,xs,rfl,ha,hxs⟩:=h1;obtain⟨b,ys,rfl,hb,hys⟩:=h2;cases r1;cases r2
   by_cases hab:a=b
   ·subst hab;exact SeqAt.EqAt.same _
   ·unfold Dt.dep at hd
    obtain⟨its,ra,pa,_⟩:=I.tuple ha;obtain⟨its2,rb,pb,_⟩:=I.tuple hb;have l1:=ra.length;have l2:=rb.length;have l3:=hxs.length;have l4:=hys.length
    have q:=SeqAt.RcAt.tuples (A:=A) (s:=s) (e:=λ_=>true) (show s.heap.IsTuple a its.toArray from pa) (show s.heap.IsTuple b its2.toArray from pb) ⋯ λj g1 g2=>by
     have g1':j<its.length:=by simpa using g1
     have g2':j<its2.length:=by simpa using g2
     have x1:xs[j]?=some xs[j]:=JJ ⋯;have y1:ys[j]?=some ys[j]:=JJ ⋯;obtain⟨d,e1,rd1⟩:=hxs.get x1;obtain⟨d',e2,rd2⟩:=hys.get y1;rw[e1]at e2;cases e2
     obtain⟨w1,f1,rr1⟩:=ra.get x1;obtain⟨w2,f2,rr2⟩:=rb.get y1;rw[JJ g1']at f1;rw[JJ g2']at f2;cases f1;cases f2
     have hdep:=ip e1;simp only[Kw];exact ih d A.in1 ⋯ (by show A.units+1+n<cLine;omega) rd1 rd2 rr1 rr2
    have e0:((List.range (min its.toArray.size its2.toArray.size)).all (λ_=>true)&&its.toArray.size==its2.toArray.size)=true:=by
     rw[gw,Bool.true_and];simp;omega
    rw[e0]at q;exact SeqAt.EqAt.of_refs hab q
def EQ(K:KG)(neg:Bool):R2:=λx y H Q=>
 (∃ds,Dt.deps ds<=40/\((mT K H (.lst ds) x/\mT K H (.lst ds) y)\/(mT K H (.tup ds) x/\mT K H (.tup ds) y))/\Q (.bl (!neg)) H) \/
 (∃a b xs ys,x=.ref a/\y=.ref b/\aQ K H a xs/\aQ K H b ys/\xs.length≠ys.length/\Q (.bl neg) H)
theorem GZ(hu:X.A.units+64<cLine):bx X (compareOp .Eq) (EQ X.K false):=by
 intro pins s σ H x y v u Q I rx ry h;rcases h with⟨ds,hd,h,q⟩ | ⟨a,b,xs,ys,rfl,rfl,ha,hb,hne,q⟩
 ·have fin:EP X pins σ Q (.bool true) s:=⟨.bl true,H,I,rfl,q⟩
  have item:∀{xs ys:List V} {its its2:KL},gQ X.K H ds xs->gQ X.K H ds ys->aW xs its->aW ys its2->∀j (h1:j<its.toArray.size) (h2:j<its2.toArray.size),SeqAt.EqAt X.A.in1 s its.toArray[j] its2.toArray[j] true:=fun{xs ys its its2} hxs hys ra rb j g1 g2=>by
   have l1:=ra.length;have l2:=rb.length;have l3:=hxs.length;have l4:=hys.length
   have g1':j<its.length:=by simpa using g1
   have g2':j<its2.length:=by simpa using g2
   have x1:xs[j]?=some xs[j]:=JJ ⋯;have y1:ys[j]?=some ys[j]:=JJ ⋯;obtain⟨d,e1,rd1⟩:=hxs.get x1;obtain⟨d',e2,rd2⟩:=hys.get y1;rw[e1]at e2;cases e2
   obtain⟨w1,f1,rr1⟩:=ra.get x1;obtain⟨w2,f2,rr2⟩:=rb.get y1;rw[JJ g1']at f1;rw[JJ g2']at f2;cases f1;cases f2
   have hdep:=ip e1;simp only[Kw];exact zQ I 40 d X.A.in1 ⋯ (by show X.A.units+1+40<cLine;omega) rd1 rd2 rr1 rr2
  rcases h with⟨h1,h2⟩ | ⟨h1,h2⟩
  ·unfold mT at h1 h2
   obtain⟨a,xs,rfl,ha,hxs⟩:=h1;obtain⟨b,ys,rfl,hb,hys⟩:=h2;cases rx;cases ry
   obtain⟨its,ra,pa,_⟩:=I.list ha;obtain⟨its2,rb,pb,_⟩:=I.list hb;have l1:=ra.length;have l2:=rb.length;have l3:=hxs.length;have l4:=hys.length
   have q:=SeqAt.RcAt.lists (A:=X.A) (s:=s) (e:=λ_=>true) pa.isList pb.isList (by simp;omega) ⋯ (item hxs hys ra rb);rw[gw]at q;exact q _ _ _ _ fin
  ·unfold mT at h1 h2
   obtain⟨a,xs,rfl,ha,hxs⟩:=h1;obtain⟨b,ys,rfl,hb,hys⟩:=h2;cases rx;cases ry
   obtain⟨its,ra,pa,_⟩:=I.tuple ha;obtain⟨its2,rb,pb,_⟩:=I.tuple hb;have l1:=ra.length;have l2:=rb.length;have l3:=hxs.length;have l4:=hys.length
   have q:=SeqAt.RcAt.tuples (A:=X.A) (s:=s) (e:=λ_=>true) (show s.heap.IsTuple a its.toArray from pa) (show s.heap.IsTuple b its2.toArray from pb) ⋯ (item hxs hys ra rb);have e0:((List.range (min its.toArray.size its2.toArray.size)).all (λ_=>true)&&its.toArray.size==its2.toArray.size)=true:=by
    rw[gw,Bool.true_and];simp;omega
   rw[e0]at q;exact q _ _ _ _ fin
 ·cases rx;cases ry
  obtain⟨its,ra,pa,_⟩:=I.list ha;obtain⟨its2,rb,pb,_⟩:=I.list hb;have l1:=ra.length;have l2:=rb.length
  exact SeqAt.RcAt.lists_lengths pa.isList pb.isList (by simp;omega) ⋯ _ _ _ _ ⟨.bl false,H,I,rfl,q⟩
theorem Eb(hu:X.A.units+64<cLine):bx X (compareOp .NotEq) (EQ X.K true):=by
 intro pins s σ H x y v u Q I rx ry h;rcases h with⟨ds,hd,h,q⟩ | ⟨a,b,xs,ys,rfl,rfl,ha,hb,hne,q⟩
 ·have fin:EP X pins σ Q (.bool false) s:=⟨.bl false,H,I,rfl,q⟩
  have item:∀{xs ys:List V} {its its2:KL},gQ X.K H ds xs->gQ X.K H ds ys->aW xs its->aW ys its2->∀j (h1:j<its.toArray.size) (h2:j<its2.toArray.size),SeqAt.EqAt X.A.in1 s its.toArray[j] its2.toArray[j] true:=fun{xs ys its its2} hxs hys ra rb j g1 g2=>by
   have l1:=ra.length;have l2:=rb.length;have l3:=hxs.length;have l4:=hys.length
   have g1':j<its.length:=by simpa using g1
   have g2':j<its2.length:=by simpa using g2
   have x1:xs[j]?=some xs[j]:=JJ ⋯;have y1:ys[j]?=some ys[j]:=JJ ⋯;obtain⟨d,e1,rd1⟩:=hxs.get x1;obtain⟨d',e2,rd2⟩:=hys.get y1;rw[e1]at e2;cases e2
   obtain⟨w1,f1,rr1⟩:=ra.get x1;obtain⟨w2,f2,rr2⟩:=rb.get y1;rw[JJ g1']at f1;rw[JJ g2']at f2;cases f1;cases f2
   have hdep:=ip e1;simp only[Kw];exact zQ I 40 d X.A.in1 ⋯ (by show X.A.units+1+40<cLine;omega) rd1 rd2 rr1 rr2
  rcases h with⟨h1,h2⟩ | ⟨h1,h2⟩
  ·unfold mT at h1 h2
   obtain⟨a,xs,rfl,ha,hxs⟩:=h1;obtain⟨b,ys,rfl,hb,hys⟩:=h2;cases rx;cases ry
   obtain⟨its,ra,pa,_⟩:=I.list ha;obtain⟨its2,rb,pb,_⟩:=I.list hb;have l1:=ra.length;have l2:=rb.length;have l3:=hxs.length;have l4:=hys.length
   have q:=SeqAt.RcNeAt.lists (A:=X.A) (s:=s) (e:=λ_=>true) pa.isList pb.isList (by simp;omega) ⋯ (item hxs hys ra rb);rw[gw]at q;exact q _ _ _ _ fin
  ·unfold mT at h1 h2
   obtain⟨a,xs,rfl,ha,hxs⟩:=h1;obtain⟨b,ys,rfl,hb,hys⟩:=h2;cases rx;cases ry
   obtain⟨its,ra,pa,_⟩:=I.tuple ha;obtain⟨its2,rb,pb,_⟩:=I.tuple hb;have l1:=ra.length;have l2:=rb.length;have l3:=hxs.length;have l4:=hys.length
   have q:=SeqAt.RcNeAt.tuples (A:=X.A) (s:=s) (e:=λ_=>true) (show s.heap.IsTuple a its.toArray from pa) (show s.heap.IsTuple b its2.toArray from pb) ⋯ (item hxs hys ra rb);have e0:((List.range (min its.toArray.size its2.toArray.size)).all (λ_=>true)&&its.toArray.size==its2.toArray.size)=true:=by
    rw[gw,Bool.true_and];simp;omega
   rw[e0]at q;exact q _ _ _ _ fin
 ·cases rx;cases ry
  obtain⟨its,ra,pa,_⟩:=I.list ha;obtain⟨its2,rb,pb,_⟩:=I.list hb;have l1:=ra.length;have l2:=rb.length
  exact SeqAt.RcNeAt.lists_lengths pa.isList pb.isList (by simp;omega) ⋯ _ _ _ _ ⟨.bl true,H,I,rfl,q⟩
end
end L2
namespace aF
abbrev G2:=List Nat
abbrev aF:=List G2
def rect(p:aF)(r c:Nat):Prop:=p.length=r/\∀x∈p,x.length=c
def zH(p:aF)(i j:Nat):Nat:=(p.getD i []).getD j 0
def mirror(p:aF):aF:=p.map List.reverse
def col(p:aF)(i:Nat):G2:=p.reverse.map λx=>x.getD i 0
def aV(p:aF):aF:=(List.range (p.headD []).length).map (col p)
def aO:Nat->aF->aF
 |0,p=>p
 |n+1,p=>aO n (aV p)
def turned(p:aF)(t:Nat):aF:=aO (t%4) (if 4<=t then mirror p else p)
theorem Bz{p:aF}{r c i:Nat}(h:rect p r c)(hi:i<r):(p.getD i []).length=c:=by
 have hl:i<p.length:=by rw[h.1];exact hi
 rw[List.getD_eq_getElem?_getD,JJ hl];exact h.2 _ (JT hl)
theorem aU{p:aF}{r c:Nat}(h:rect p r c)(hr:0<r):(p.headD []).length=c:=by
 have:=Bz h hr;cases p with
 |nil=>have:=h.1;simp at this;omega
 |cons x p=>simpa using this
theorem bW{p:aF}{r c:Nat}(h:rect p r c):rect (mirror p) r c:=by
 refine⟨by simp[mirror,h.1],λx hx=>?_⟩;obtain⟨y,hy,rfl⟩:=Kt.mp hx;rw[J2];exact h.2 y hy
theorem bp{p:aF}{r c:Nat}(h:rect p r c)(hr:0<r):rect (aV p) c r:=by
 refine⟨by unfold aV;rw[JM,List.length_range,aU h hr],λx hx=>?_⟩;obtain⟨i,_,rfl⟩:=Kt.mp hx;simp[col,h.1]
theorem iZ{p:aF}{r c i j:Nat}(h:rect p r c)(hi:i<r)(hj:j<c):zH (mirror p) i j=zH p i (c-1-j):=by
 have hl:i<p.length:=by rw[h.1];exact hi
 have hc:(p[i]).length=c:=h.2 _ (JT hl);unfold zH mirror;rw[List.getD_eq_getElem?_getD (l:=List.map _ _),JO,JJ hl,List.getD_eq_getElem?_getD (l:=p),JJ hl];simp only[Option.map_some,Option.getD_some];rw[List.getD_eq_getElem?_getD,List.getElem?_reverse (by rw[hc];exact hj),hc,List.getD_eq_getElem?_getD]
theorem cv{p:aF}{r c i j:Nat}(h:rect p r c)(hr:0<r)(hi:i<c)(hj:j<r):zH (aV p) i j=zH p (r-1-j) i:=by
 unfold zH aV;rw[aU h hr,List.getD_eq_getElem?_getD (l:=List.map _ _),JO,List.getElem?_range hi];simp only[Option.map_some,Option.getD_some];unfold col;rw[List.getD_eq_getElem?_getD,JO,List.getElem?_reverse (by rw[h.1];exact hj),h.1];have hl:r-1-j<p.length:=by rw[h.1];omega
 rw[JJ hl,List.getD_eq_getElem?_getD (l:=p),JJ hl]
 rfl
theorem kF{p q:aF}{r c:Nat}(hp:rect p r c)(hq:rect q r c)(h:∀i j,i<r->j<c->zH p i j=zH q i j):p=q:=by
 refine List.ext_getElem (by rw[hp.1,hq.1]) λi h1 h2=>?_;have l1:=hp.2 _ (JT h1);have l2:=hq.2 _ (JT h2);refine List.ext_getElem (by rw[l1,l2]) λj g1 g2=>?_;have e:=h i j (by rw[<- hp.1];exact h1) (by rw[<- l1];exact g1);unfold zH at e
 simpa[List.getD_eq_getElem?_getD,JJ,h1,h2,g1,g2]using e
theorem Cy(p:aF):mirror (mirror p)=p:=by simp[mirror,JZ,Function.comp_def]
theorem BF{p:aF}{r c:Nat}(h:rect p r c)(hr:0<r)(hc:0<c):aV (aV (aV (aV p)))=p:=by
 have h1:=bp h hr;have h2:=bp h1 hc;have h3:=bp h2 hr;have h4:=bp h3 hc;refine kF h4 h λi j hi hj=>?_;rw[cv h3 hc hi hj,cv h2 hr ⋯ hi,cv h1 hc ⋯ ⋯,cv h hr ⋯ ⋯]
 congr 1<;>omega
theorem nM{p:aF}{r c:Nat}(h:rect p r c)(hr:0<r)(hc:0<c):mirror (aV p)=aV (aV (aV (mirror p))):=by
 have m:=bW h;have h1:=bp m hr;have h2:=bp h1 hc;have h3:=bp h2 hr;have q:=bp h hr;refine kF (bW q) h3 λi j hi hj=>?_;rw[iZ q hi hj,cv h hr hi ⋯,cv h2 hr hi hj,cv h1 hc ⋯ hi,cv m hr ⋯ ⋯,iZ h ⋯ ⋯]
 congr 1<;>omega
theorem dl:∀(n:Nat) {p:aF} {r c:Nat},rect p r c->0<r->0<c->rect (aO n p) (if n%2=0 then r else c) (if n%2=0 then c else r)
 |0,_,_,_,h,_,_=>h
 |n+1,p,r,c,h,hr,hc=>by
  have:=dl n (bp h hr) hc hr;show rect (aO n (aV p)) _ _
  by_cases e:n%2=0
  ·rw[if_pos e,if_pos e]at this
   rw[if_neg ⋯,if_neg ⋯];exact this
  ·rw[if_neg e,if_neg e]at this
   rw[if_pos ⋯,if_pos ⋯];exact this
theorem cV{p:aF}{r c:Nat}(h:rect p r c)(hr:0<r)(hc:0<c)(t:Nat):rect (turned p t) (if t%2=0 then r else c) (if t%2=0 then c else r):=by
 unfold turned;have e:t%4%2=t%2:=by omega
 rw[<- e]
 split
 ·exact dl _ (bW h) hr hc
 ·exact dl _ h hr hc
theorem cG(a b:Nat)(p:aF):aO a (aO b p)=aO (b+a) p:=by
 induction b generalizing p with
 |zero=>rw[Nat.zero_add];rfl
 |succ b ih=>show aO a (aO b (aV p))=_;rw[ih,Nat.add_right_comm];rfl
theorem eM{p:aF}{r c:Nat}(h:rect p r c)(hr:0<r)(hc:0<c)(n:Nat):aO n p=aO (n%4) p:=by
 induction n using Nat.strongRecOn generalizing p r c with
 |ind n ih=>
  by_cases hn:n<4
  ·rw[Nat.mod_eq_of_lt hn]
  ·obtain⟨m,rfl⟩:∃m,n=m+4:=⟨n-4,⋯⟩
   have e:aO (m+4) p=aO m (aV (aV (aV (aV p)))):=rfl;rw[e,BF h hr hc,ih m ⋯ h hr hc]
   congr 1
   omega
theorem hZ{p:aF}{r c:Nat}(h:rect p r c)(hr:0<r)(hc:0<c):∀n,mirror (aO n p)=aO (3*n) (mirror p):=by
 intro n
 induction n generalizing p r c with
 |zero=>rfl
 |succ n ih=>
  show mirror (aO n (aV p))=_;rw[ih (bp h hr) hc hr,nM h hr hc];have e:aV (aV (aV (mirror p)))=aO 3 (mirror p):=rfl;rw[e,cG]
  congr 1
  omega
def after(t u:Nat):Nat:=if u<4 then t/4*4+(t+u)%4 else(1-t/4)*4+(u+8-t)%4
def dA(t:Nat):Nat:=if t<4 then(4-t)%4 else t
theorem bC{p:aF}{r c:Nat}(h:rect p r c)(hr:0<r)(hc:0<c){t u:Nat}(ht:t<8)(hu:u<8):turned (turned p t) u=turned p (after t u):=by
 have m:=bW h;unfold turned after
 by_cases h1:4<=t<;>by_cases h2:4<=u
 ·rw[if_pos h1,if_pos h2,if_neg ⋯,if_neg ⋯]
  rw[hZ m hr hc,Cy,cG,eM h hr hc]
  congr 1;omega
 ·rw[if_pos h1,if_neg h2,if_pos ⋯,if_pos ⋯]
  rw[cG,eM m hr hc]
  congr 1;omega
 ·rw[if_neg h1,if_pos h2,if_neg ⋯,if_pos ⋯]
  rw[hZ h hr hc,cG,eM m hr hc]
  congr 1;omega
 ·rw[if_neg h1,if_neg h2,if_pos ⋯,if_neg ⋯]
  rw[cG,eM h hr hc]
  congr 1;omega
theorem lT(p:aF):turned p 0=p:=rfl
theorem gi{t u:Nat}(ht:t<8)(hu:u<8):after t u<8:=by unfold after;split<;>omega
theorem kn{t:Nat}(ht:t<8):dA t<8:=by unfold dA;split<;>omega
theorem vG{t:Nat}(ht:t<8):after t (dA t)=0:=by
 unfold after dA
 by_cases h:t<4
 ·rw[if_pos h,if_pos ⋯];omega
 ·rw[if_neg h,if_neg ⋯];omega
theorem vw{t:Nat}(ht:t<8):after (dA t) t=0:=by
 unfold after dA
 by_cases h:t<4
 ·rw[if_pos h,if_pos ⋯];omega
 ·rw[if_neg h,if_neg ⋯];omega
theorem ma{p:aF}{r c:Nat}(h:rect p r c)(hr:0<r)(hc:0<c){t:Nat}(ht:t<8):turned (turned p t) (dA t)=p:=by
 rw[bC h hr hc ht (kn ht),vG ht];rfl
end aF
namespace QL
open PySem L2 aF
def tx(r:KI):Str:=⟨r.toArray⟩
def ar(p:aF):List V:=p.map λr=>V.str (tx r)
theorem aG(r:KI):(tx r).length=r.length:=by show r.toArray.size=r.length;simp
theorem dD(r:KI):(tx r).cps.toList=r:=by show r.toArray.toList=r;simp
theorem aq(p:aF):(ar p).length=p.length:=by unfold ar;simp
theorem dM(p:aF):ar p=(p.map tx).map V.str:=by unfold ar;rw[JZ];rfl
theorem cy{p:aF}{i:Nat}(h:i<p.length):(ar p)[i]?=some (V.str (tx p[i])):=by unfold ar;rw[JO,JJ h];rfl
theorem cD(p:aF)(r:KI):ar (p++[r])=ar p++[V.str (tx r)]:=by unfold ar;simp
theorem join_nil:∀(ys:List (List Nat)),Txt.join (Str.ofString "") (ys.map tx)=tx ys.flatten
 | []=>rfl
 |y::ys=>by
  have key:∀(zs:List (List Nat)) (a:KI),(zs.map tx).foldl (λacc (p:Str)=>acc++(Str.ofString "").cps++p.cps) a.toArray=(a++zs.flatten).toArray:=by
   intro zs
   induction zs with
   |nil=>intro a;simp
   |cons z zs ih=>
    intro a;rw[Kc,List.foldl_cons];have e:a.toArray++(Str.ofString "").cps++(tx z).cps=(a++z).toArray:=by
     have e0:(Str.ofString "").cps=#[]:=rfl;rw[e0];show a.toArray ++ #[]++z.toArray=_;simp
    rw[e,ih];simp
  show(⟨(ys.map tx).foldl (λacc (p:Str)=>acc++(Str.ofString "").cps++p.cps) (tx y).cps⟩:Str)=_;show(⟨(ys.map tx).foldl (λacc (p:Str)=>acc++(Str.ofString "").cps++p.cps) y.toArray⟩:Str)=_;rw[key]
  rfl
theorem qM(r:KI):Txt.join (Str.ofString "") (r.map λc=>(⟨#[c]⟩:Str))=tx r:=by
 have e:(r.map λc=>(⟨#[c]⟩:Str))=(r.map λc=>[c]).map tx:=by rw[JZ];rfl
 rw[e,join_nil]
 congr 1
 clear e
 induction r with
 |nil=>rfl
 |cons c r ih=>simp[ih]
def dH(p:aF):Prop:=p.length<=64/\∀r∈p,r.length<=64
theorem dH.of{p:aF}{r c:Nat}(h:rect p r c)(hr:r<=64)(hc:c<=64):dH p:=⟨by rw[h.1];exact hr,λx hx=>by rw[h.2 x hx];exact hc⟩
theorem bh{n:Nat}(h:n<=1000000):n<sizeLine:=by have:=sizeLine_eq;omega
theorem au{n:Nat}(h:n<=1000000):n<=sizeLine:=by have:=sizeLine_eq;omega
theorem aj{H:Hp}{l:Addr}{o:HO}(h:H l=none):aD H (aC H l o):=λb u e=>by rw[ai (av e h)];exact e
theorem bQ{H0 H:Hp}{l:Addr}{o:HO}(s:aD H0 H)(h:H0 l=none):aD H0 (aC H l o):=λb u e=>by rw[ai (av e h)];exact s b u e
theorem nu{p:aF}{r c i:Nat}(h:rect p r c)(hi:i<r):∃hl:i<p.length,(p[i]).length=c:=⟨by rw[h.1];exact hi,h.2 _ (JT _)⟩
def gu(H:Hp)(p:aF)(Q:VK):Prop:=∀(l:Addr) (H':Hp),H l=none->H' l=some (.lst (ar p))->aD H H'->Q (.ref l) H'
def aX(ns:List Int)(k:Nat):Int:=ns.getD k 0/2147483647*2147483647+(((ns.getD k 0%2147483647+7919*(k:Int)+1)*48271%2147483647)*69621+(k:Int))%2147483647
theorem r8(K:KG):PySem.W.kitOne K (.type "int") (.type "bool")=some false:=by kernel_rfl
end QL
namespace L2
open PySem PySem.Spec PyProof.Rows
section
variable {X:Cx}
theorem cI:g8 X (.builtin "len") (λxs H Q=>∃p ys,xs=[.ref p]/\aQ X.K H p ys/\Q (.int ys.length) H):=λpins s σ H xs us Q I r ⟨p,ys,e,h,q⟩=>qO pins s σ H xs us Q I r ⟨p,ys,e,.inl h,q⟩
theorem AK{K:KG}{g:TG}{ti:TT}{te:TE}{σ:St}{H:Hp}{Q:List V->Hp->Prop}{a:Addr}{xs:List V}(Pv:Nat->List V->St->Hp->Prop)(h0:Pv 0 [] σ H)(hz:∀i acc σ H,Pv i acc σ H->acc.length<sizeLine)(hi:∀i acc σ H,Pv i acc σ H->i<=xs.length)
  (hl:∀i acc σ H,Pv i acc σ H->aQ K H a xs)
  (hs:∀i x acc σ H,xs.reverse[i]?=some x->Pv i acc σ H->g x σ H λσ2 H3=>ti σ2 H3 λb H4=>if b=true then te σ2 H4 λv H5=>Pv (i+1) (acc++[v]) σ2 H5 else Pv (i+1) acc σ2 H4)
  (he:∀acc σ H,Pv xs.length acc σ H->Q acc H):g_ (F6 K a xs.length) g ti te σ H Q:=by
 have rv:∀{i:Nat} {x:V},i<xs.length->xs[xs.length-1-i]?=some x->xs.reverse[i]?=some x:=fun{i x} hi e=>by rw[List.getElem?_reverse hi];exact e
 exact j9 (J:=F6 K a xs.length) (g:=g) (ti:=ti) (te:=te) (Q:=Q) (n:=xs.length) Pv h0 hz hi (λacc σ H w=>rfl)
  (λi acc σ H hlt w=>⟨xs,xs[xs.length-1-i]'⋯,hl _ _ _ _ w,hlt,JJ ⋯⟩) (λi x acc σ H H2 hlt w y=>by obtain⟨rfl,hx⟩:=y;exact hs i x acc σ H2 (rv hlt (hx xs (hl _ _ _ _ w))) w) he
theorem CM(i j:Int):(AD (.int i) (.int j)=true)=True:=by simp[AD]
theorem jr{a:Expr}{ta:TE}(ha:PE X a ta)(he:∀whole,isTrue a X.env whole=(do let v <- whole;standAt a.pos;holding [v] (truthy v))):PT X a (xt ta):=by
 intro pins s σ H Q I h;rw[he];refine wpAny_bind (bU (ha pins s σ H _ I h) λv s1 ⟨x,H1,I1,r1,k,e,q⟩=>?_);subst e;cases r1;exact wpAny_bind (wpAny_standAt (wpAny_holding (wpAny_truthy_bool ⟨H1,I1,q⟩)))
def yg(J:It)(g:TG)(tb:TS)(D:il)(σ:St)(H:Hp):Prop:=∃W:Nat->Nat->St->Hp->Prop,(∃m,W 0 m σ H)/\∀i m σ H,W i m σ H ->
 (J.stop i H/\D.nx σ H)\/(J.go i H/\∃N:St->Hp->Prop,(∀σ' H',N σ' H'->∃m',m'<m/\W (i+1) m' σ' H')/\∀x H',J.yld i H x H'->g x σ H' λσ2 H2=>tb {D with nx:=N,ct:=N,bk:=D.nx} σ2 H2)
def Au(wi:TI)(g:TG)(tb:TS):TS:=λD σ H=>wi σ H λJ H1=>yg J g tb D σ H1
theorem bj{tg iter:Expr}{body:List Stmt}{wi:TI}{g:TG}{tb:TS}{pos:Pos}(hp:PassesOwn (model X.prog X.w) X.A X.env X.xe)(hc:X.calm=true)(hi:PI X tg iter wi)(hg:PG X tg g)(hb:ud X body tb)
  (hs:autoParam (∀x,foldedSetIterable iter X.env x=pure x) zz4._auto_1):PS X (.For tg iter body [] pos) (Au wi g tb):=Fc hp hc hi hg hb hs
section
variable {K:KG}{g:TG}{tb:TS}{D:il}{σ:St}{H:Hp}
theorem bZ{a:Addr}{xs:List V}(Pv:Nat->St->Hp->Prop)(h0:Pv 0 σ H)(hl:∀i σ H,i<=xs.length->Pv i σ H->aQ K H a xs)
  (hs:∀i x σ H,xs[i]?=some x->Pv i σ H->g x σ H λσ2 H2=>tb {D with nx:=Pv (i+1),ct:=Pv (i+1),bk:=D.nx} σ2 H2) (hd:∀σ H,Pv xs.length σ H->D.nx σ H):yg (BB K a) g tb D σ H:=Al Pv h0 hl hs hd
theorem b7{lo:Int}{n:Nat}(Pv:Nat->St->Hp->Prop)(h0:Pv 0 σ H)
  (hs:∀i σ H,i<n->Pv i σ H->g (.int (lo+i)) σ H λσ2 H2=>tb {D with nx:=Pv (i+1),ct:=Pv (i+1),bk:=D.nx} σ2 H2) (hd:∀σ H,Pv n σ H->D.nx σ H):yg (zI lo n) g tb D σ H:=yC Pv h0 hs hd
end
end
theorem b_:bootBuiltins "len"=some (.builtin "len"):=by decide +kernel
theorem eV:bootBuiltins "list"=some (.type "list"):=by decide +kernel
theorem Ec:bootBuiltins "int"=some (.type "int"):=by decide +kernel
theorem Di:bootBuiltins "bool"=some (.type "bool"):=by decide +kernel
theorem dj:bootBuiltins "isinstance"=some (.builtin "isinstance"):=by decide +kernel
theorem EO:bootBuiltins "all"=some (.builtin "all"):=by decide +kernel
end L2
namespace L2
open PySem PySem.Spec PyProof.Rows
section
variable {X:Cx}{a b c d:Expr}{ta tb tc td:TE}{pos:Pos}
def EI(K:KG):List V->Hp->VK->Prop:=λxs H Q=>∃(p:Addr) (bs:List Bool),xs=[.ref p]/\aQ K H p (bs.map V.bl)/\Q (.bl (bs.all id)) H
theorem w9:∀{bs:List Bool} {us:KL} {i:Nat} {u:Value},aW (bs.map V.bl) us->us[i]?=some u->∃k,bs[i]?=some k/\u=.bool k
 | [],_,_,_,.nil,e=>by simp at e
 |k::bs,_,0,u,.cons r _,e=>by simp at e;subst e;exact⟨k,rfl,r⟩
 |k::bs,_,i+1,u,.cons _ t,e=>by
  obtain⟨k',h1,h2⟩:=w9 (i:=i) t (by simpa using e);exact⟨k',by simpa using h1,h2⟩
theorem yd(bs:List Bool):((List.range bs.length).all λi=>(bs[i]?).getD true)=bs.all id:=by
 rw[Bool.eq_iff_iff,Ku,Ku]
 constructor
 ·intro h x hx
  obtain⟨i,hi,e⟩:=List.getElem_of_mem hx;have q:=h i (List.mem_range.mpr hi);rw[JJ hi,Option.getD_some,e]at q;exact q
 ·intro h i hi
  have hi':=List.mem_range.mp hi;rw[JJ hi',Option.getD_some];exact h _ (JT hi')
theorem Bb(hc:X.calm=true):g8 X (.builtin "all") (EI X.K):=by
 intro pins s σ H xs us Q I r h;obtain⟨p,bs,rfl,hs,q⟩:=h;obtain⟨u,rfl,ru⟩:=r.one;cases ru;obtain⟨its,rv,pl,_⟩:=I.list hs;have hlt:p<s.heap.objs.size:=by obtain⟨_,e,_⟩:=pl.isList;exact J' e
 have hlen:its.length=bs.length:=by rw[<- rv.length,JM]
 refine call_all_walk (wpAny_pyIter_list pl.isList ?_);refine⟨s.heap.objs.size,[s.heap.objs.size,p],[s.heap.objs.size],its.toArray.size,_,_,λi=>(bs[i]?).getD true,rfl,Walks.list (A:=X.A.in1) (I.ok.hd hc) _ p (J4 hlt) its.toArray,
  ⟨⟨_,JR _ rfl,rfl,rfl⟩,pl.isList.push _⟩,λi v s' Q' E' hP hQ=>?_,λh' tk hk=>?_⟩
 ·obtain⟨k,e,rfl⟩:=w9 (i:=i) rv (by simpa using hP)
  dsimp only at hQ;rw[e,Option.getD_some]at hQ;exact wpAny_truthy_bool hQ
 ·have e:((List.range its.toArray.size).all λi=>(bs[i]?).getD true)=bs.all id:=by rw[JS,hlen];exact yd bs
  rw[e];exact⟨.bl _,H,I.kept (t':=tk) λb o eo=>hk b o (λhm=>by rw[JN.mp hm]at eo;exact Ke _ (J' eo)) (JL _ eo),rfl,q⟩
end
end L2
namespace QL
open PySem L2 aF PySem.Builtin PySem.Builtin.Str
theorem vO(row:KI)(i k:Nat)(h:i+k<=row.length):((List.range k).map λm=>i+m).filterMap (λj=>row[j]?)=(row.drop i).take k:=by
 rw[List.filterMap_map]
 induction k with
 |zero=>simp
 |succ k ih=>
  rw[List.range_succ,List.filterMap_append,ih ⋯,List.take_add_one,List.getElem?_drop];have e:i+k<row.length:=by omega
  simp[JJ e]
def Bv(n:Nat)(d:Int):Option Int->Int
 |none=>d
 |some i=>max 0 (min (if i<0 then i+(n:Int) else i) (n:Int))
theorem um(n d:Nat)(v:Option Int):Bv n (d:Int) v=((HT.sIx n d v:Nat):Int):=by
 cases v with
 |none=>rfl
 |some v=>
  show max 0 (min (if v<0 then v+(n:Int) else v) (n:Int))=(((if v<0 then(v+(n:Int)).toNat else min v.toNat n:Nat)):Int)
  by_cases hv:v<0
  ·rw[if_pos hv,if_pos hv,Int.max_def,Int.min_def]
   split<;>split at * <;> omega
  ·rw[if_neg hv,if_neg hv,Int.max_def,Int.min_def]
   split<;>split at * <;> omega
theorem wT(lo hi:Option Int)(n:Nat):strSliceIndices lo hi 1 n=sliceRange (Bv n ((0:Nat):Int) lo) (Bv n (n:Int) hi) 1:=by cases lo<;>cases hi<;>rfl
theorem i6(row:KI)(lo hi:Option Int):Txt.slice (tx row) lo hi=tx ((row.drop (HT.sIx row.length 0 lo)).take (HT.sIx row.length row.length hi-HT.sIx row.length 0 lo)):=by
 have hl:=HT.sIx_le row.length 0 (J9 _) lo;have hh:=HT.sIx_le row.length row.length (J8 _) hi;have key:strSliceIndices lo hi 1 (tx row).length=(List.range (HT.sIx row.length row.length hi-HT.sIx row.length 0 lo)).map λm=>HT.sIx row.length 0 lo+m:=by
  rw[aG,wT,um,um];generalize HT.sIx row.length 0 lo=a;generalize HT.sIx row.length row.length hi=b;unfold sliceRange;have en:(if(1:Int)>0 then(if(a:Int)<(b:Int) then((b:Int)-(a:Int)+1-1)/1 else 0) else(if(a:Int)>(b:Int) then((a:Int)-(b:Int)-1-1)/(-1) else 0)).toNat=b-a:=by
   rw[if_pos nofun]
   split<;>omega
  show(List.range (if(1:Int)>0 then(if(a:Int)<(b:Int) then((b:Int)-(a:Int)+1-1)/1 else 0) else(if(a:Int)>(b:Int) then((a:Int)-(b:Int)-1-1)/(-1) else 0)).toNat).map (fun(k:Nat)=>((a:Int)+1*(k:Int)).toNat)=_;rw[en];refine List.map_congr_left λm _=>?_;omega
 unfold Txt.slice;rw[key];generalize HT.sIx row.length 0 lo=a at hl ⊢;generalize HT.sIx row.length row.length hi=b at hh ⊢
 by_cases hab:a+(b-a)<=row.length
 ·have e:(((List.range (b-a)).map λm=>a+m).filterMap λj=>(tx row).cps[j]?)=(row.drop a).take (b-a):=by
   rw[<- vO row a (b-a) hab]
   congr 1
   funext j
   show row.toArray[j]?=row[j]?;simp
  rw[e]
  split
  ·rename_i hw
   simp at hw;rw[aG]at hw;have ha0:a=0:=by omega
   have hb0:b-a=row.length:=by omega
   rw[ha0,KD];rw[ha0]at hb0;rw[hb0,Kj]
  ·rfl
 ·exact absurd hab ⋯
end QL
namespace L2
open PySem PySem.Spec PyProof.Rows
section
variable {X:Cx}{K:KG}{tg:Expr}
theorem gm(hK:X.K=K):g8 X (.builtin "isinstance") (CL K):=hK▸dq
theorem Bw(hK:X.K=K):Ez X (zj K):=hK▸sj
end
end L2
namespace PySem
open Sem (wp)
def TrD(cp:Value->Prop)(h base:Heap)(e:Addr)(cls:Value)(od:KU)(fl:Value):Prop:=
 ∃oe vs T oT ts,h.get? e=some oe/\oe.cls=cls/\oe.dict=od/\oe.data=.fields vs/\vs[1]?=some (.ref T)/\base.get? T=none/\T≠e/\h.get? T=some oT/\oT.data=.fields ts/\ts[3]?=some fl/\∃cx,vs[2]?=some cx/\cp cx
structure km(cp:Value->Prop)(base:Heap)(l:List Env)(e:Addr)(cls:Value)(od:KU)(fl:Value)(h:Heap):Prop where
 st:base.StaysIn h
 new:base.get? e=none
 ff:h.FunFrames base l
 tr:TrD cp h base e cls od fl
theorem oJ(o:Obj)(f:Array Value->Array Value):(Obj.mapFields f o).dict=o.dict:=by unfold Obj.mapFields;split<;>rfl
section
variable {cp:Value->Prop}{M:Model}{A:KR}{E:KF}{s:KJ}{base:Heap}{env:Env}{outer:List Env}{L e:Addr}{Q:Unit->Shared->Prop}
theorem xB{cls fl:Value}{od:KU}{l:List Env}(x:km cp base l e cls od fl s.heap)(h:∀h',km cp base l e cls od .none h'->s.heap.UpToSlots h'->Q () {s with heap:=h' }):wpAny M A (setFlight (.ref e) none) Q E s:=by
 obtain⟨oe,vs,T,oT,ts,he,hc,ho,hd,h1,hnT,hTe,hT,hdT,h3,hcx⟩:=x.tr;have hsz:3<ts.size:=(Array.getElem?_eq_some_iff.mp h3).1;have oth:∀b,b≠T->(s.heap.update T (Obj.mapFields (·.setIfInBounds 3 Value.none))).get? b=s.heap.get? b:=λb hb=>JQ _ _ (Ne.symm hb);have nrec:∀b o,s.heap.get? b=some o->(∀vs,o.data≠.fields vs)->b≠T:=λb o hb hnf q=>by rw[q,hT]at hb;injection hb with hb;subst hb;exact hnf ts hdT
 unfold setFlight;refine wpAny_bind (wpAny_field he hd h1 ?_);rw[if_pos (show(Value.ref T != Value.none)=true from by simp)];refine wpAny_setField hT hdT hsz (h _ ⟨λb o hb=>(oth b λq=>by rw[q,hnT]at hb;cases hb).trans (x.st b o hb),x.new,x.ff.of_keeps λb o hb hnf=>⟨o,(oth b (nrec b o hb hnf)).trans hb,rfl⟩,?_⟩ λb o hb hnf=>⟨o.slots,(oth b (nrec b o hb hnf)).trans hb⟩);exact⟨oe,vs,T,_,_,(oth e (Ne.symm hTe)).trans he,hc,ho,hd,h1,hnT,hTe,JV _ hT (Obj.isFreed_of_fields (Obj.data_mapFields hdT _)),Obj.data_mapFields hdT _,by simp[hsz],hcx⟩
theorem A2{oe:Obj}{vs:Array Value}{head:Value}{hadNext:Bool}(hfr:A.frames=some (env::outer))(hl:s.heap.FunFrames base (env::outer))(hf:env.frame=some L)
  (he:s.heap.get? e=some oe) (hkb:base.StaysIn s.heap) (hen:base.get? e=none) (hd:oe.data=.fields vs) (hsz:1<vs.size) (hcx:∃cx,vs[2]?=some cx/\cp cx)
  (h:∀h',km cp base (env::outer) e oe.cls oe.dict (rawInt L) h'->s.heap.UpToSlots h'->Q () {s with heap:=h' }) :
  wpAny M A (do let a <- frameOf env;let pl <- entryPlaceOf L hadNext;let b <- EntryCells.newEntry head a .none (rawInt L) .none pl;setField (.ref e) 1 b) Q E s:=by
 have hene:e∉(env::outer).filterMap (·.frame):=λhm=>by
  obtain⟨_,o,ho,hnf⟩:=hl.mem hm;rw[he]at ho;injection ho with ho;subst ho;exact hnf vs hd
 refine wpAny_bind (wpAny_frameOf_fun hfr hl hf λh₁ hs₁=>?_);refine wpAny_bind (wpAny_entryPlaceOf λpl hpl=>?_);unfold EntryCells.newEntry newFields;refine wpAny_bind (wpAny_newObj_type ?_ (hpl.sizeOk5 _ _ _ _ _));have he₁:h₁.get? e=some oe:=(hs₁.2.1 e hene).trans he;have kb₁:base.StaysIn h₁:=λb o hb=>(hs₁.2.1 b λhm=>by rw[(hl.mem hm).1]at hb;cases hb).trans (hkb b o hb);generalize hT0:({cls:=.type "traceback",dict:=none,data:=.fields ([head,.ref L,.none,rawInt L,.none]++(if pl.isEmpty then List.replicate 6 Value.none else pl)).toArray}:Obj)=To;have dTo:To.data=.fields ([head,.ref L,.none,rawInt L,.none]++(if pl.isEmpty then List.replicate 6 Value.none else pl)).toArray:=by rw[<- hT0]
 have he₂:=JL (h:=h₁) To he₁;have hTe:h₁.objs.size≠e:=Nat.ne_of_gt (J' he₁);have keep:∀b o,b≠e->h₁.get? b=some o->((h₁.push To).update e (Obj.mapFields (·.setIfInBounds 1 (Value.ref h₁.objs.size)))).get? b=some o:=λb o hbe hb=>by
  rw[JQ _ _ (Ne.symm hbe)];exact JL _ hb
 have nrec:∀b o,s.heap.get? b=some o->(∀vs,o.data≠.fields vs)->b≠e:=λb o hb hnf q=>by
  rw[q,he]at hb
  injection hb with hb
  subst hb;exact hnf vs hd
 refine wpAny_setField he₂ hd hsz (h _ ?_ ?_)
 ·have hd₃:=Obj.data_mapFields hd (·.setIfInBounds 1 (Value.ref h₁.objs.size))
  refine⟨λb o hb=>keep b o (λq=>by rw[q,hen]at hb;cases hb) (kb₁ b o hb),hen,hl.of_keeps λb o hb hnf=>?_,?_⟩
  ·obtain⟨sl,hs⟩:=hs₁.2.2 b o hb
   exact⟨_,keep b _ (nrec b o hb hnf) hs,rfl⟩
  ·refine⟨_,_,h₁.objs.size,To,_,JV _ he₂ (Obj.isFreed_of_fields hd₃),Obj.cls_mapFields _ _,oJ _ _,hd₃,by simp[hsz],kb₁.fresh,hTe,?_,dTo,?_,?_⟩
   ·rw[JQ _ _ (Ne.symm hTe)]
    refine JR _ ?_;rw[<- hT0];rfl
   ·first | (simp;done) | (rcases hpl with rfl | ⟨_,_,_,_,_,_,_,rfl⟩<;>simp)
   ·obtain⟨cx,h2,hp⟩:=hcx
    exact⟨cx,by rw[Array.getElem?_setIfInBounds_ne nofun];exact h2,hp⟩
 ·intro b o hb hnf
  obtain⟨sl,hs⟩:=hs₁.2.2 b o hb;exact⟨sl,keep b _ (nrec b o hb hnf) hs⟩
theorem Fp{cls:Value}{od:KU}(hfr:A.frames=some (env::outer))(hf:env.frame=some L)(x:km cp base (env::outer) e cls od .none s.heap)
  (h:∀h',km cp base (env::outer) e cls od (rawInt L) h'->s.heap.UpToSlots h'->Q () {s with heap:=h' }):wpAny M A (noteFrame (.ref e) env) Q E s:=by
 obtain⟨oe,vs,T,oT,ts,he,hc,ho,hd,h1,hnT,hTe,hT,hdT,h3,hcx⟩:=x.tr;subst hc ho;unfold noteFrame;simp only[hf];refine wpAny_bind (wpAny_field he hd h1 ?_);rw[if_pos (show(Value.ref T != Value.none)=true from by simp)];refine wpAny_bind (wpAny_field hT hdT h3 ?_);rw[if_neg (show ¬ ((Value.none==rawInt L)=true) from by simp[rawInt])];refine wpAny_bind (wpAny_setField hT hdT (Array.getElem?_eq_some_iff.mp h3).1 ?_);have oth:∀b,b≠T->(s.heap.update T (Obj.mapFields (·.setIfInBounds 3 Value.none))).get? b=s.heap.get? b:=λb hb=>JQ _ _ (Ne.symm hb);have nrec:∀b o,s.heap.get? b=some o->(∀vs,o.data≠.fields vs)->b≠T:=λb o hb hnf q=>by rw[q,hT]at hb;injection hb with hb;subst hb;exact hnf ts hdT
 refine A2 hfr (x.ff.of_keeps λb o hb hnf=>⟨o,(oth b (nrec b o hb hnf)).trans hb,rfl⟩) hf ((oth e (Ne.symm hTe)).trans he) (λb o hb=>(oth b λq=>by rw[q,hnT]at hb;cases hb).trans (x.st b o hb)) x.new hd (Array.getElem?_eq_some_iff.mp h1).1 hcx λh' y up=>h h' y λb o hb hnf=>up b o ((oth b (nrec b o hb hnf)).trans hb) hnf
theorem Es{oe:Obj}{vs:Array Value}(hfr:A.frames=some (env::outer))(hl:s.heap.FunFrames base (env::outer))(hf:env.frame=some L)(he:s.heap.get? e=some oe)(hkb:base.StaysIn s.heap)(hen:base.get? e=none)(hd:oe.data=.fields vs)(h1:vs[1]?=some .none)(hcx:∃cx,vs[2]?=some cx/\cp cx)
  (h:∀h',km cp base (env::outer) e oe.cls oe.dict (rawInt L) h'->s.heap.UpToSlots h'->Q () {s with heap:=h' }):wpAny M A (noteFrame (.ref e) env) Q E s:=by
 unfold noteFrame;simp only[hf];refine wpAny_bind (wpAny_field he hd h1 ?_);rw[if_neg nofun];exact A2 hfr hl hf he hkb hen hd (Array.getElem?_eq_some_iff.mp h1).1 hcx h
theorem km.drop{cls fl:Value}{od:KU}{h:Heap}(x:km cp base (env::outer) e cls od fl h):km cp base outer e cls od fl h:=⟨x.st,x.new,x.ff.2.2,x.tr⟩
theorem Ef{cls:Value}{od:KU}(hfr:A.frames=some (env::outer))(hf:env.frame=some L)(x:km cp base (env::outer) e cls od .none s.heap)
  (h:∀h',km cp base outer e cls od .none h'->s.heap.UpToSlots h'->Q () {s with heap:=h' }):wpAny M A (leaving env (.ref e)) Q E s:=by
 unfold leaving;exact wpAny_bind (Fp hfr hf x λh1 y1 u1=>xB y1 λh2 y2 u2=>h h2 y2.drop (u1.trans u2))
theorem xC{oe:Obj}{vs:Array Value}(hfr:A.frames=some (env::outer))(hl:s.heap.FunFrames base (env::outer))(hf:env.frame=some L)(he:s.heap.get? e=some oe)(hkb:base.StaysIn s.heap)(hen:base.get? e=none)(hd:oe.data=.fields vs)(h1:vs[1]?=some .none)(hcx:∃cx,vs[2]?=some cx/\cp cx)
  (h:∀h',km cp base outer e oe.cls oe.dict .none h'->s.heap.UpToSlots h'->Q () {s with heap:=h' }):wpAny M A (leaving env (.ref e)) Q E s:=by
 unfold leaving;exact wpAny_bind (Es hfr hl hf he hkb hen hd h1 hcx λh1 y1 u1=>xB y1 λh2 y2 u2=>h h2 y2.drop (u1.trans u2))
end
end PySem
namespace L2
open PySem PySem.Spec PyProof.Rows
structure Fly0(P:KP)(w:KS)(outer:List Env)(H:Hp)(s:KJ)(B:Heap)(H':Hp)(s':KJ):Prop where
 st:B.StaysIn s'.heap
 ff:s'.heap.FunFrames B outer
 un:Un (lK outer) [] H H' s.heap s'.heap
 hok:je P w H' s'.heap
 cov:∀b o,H' b=some o->∃ob,B.get? b=some ob
 old:∀b o,s.heap.get? b=some o->b∉lK outer->∃o',B.get? b=some o'
 os:s'.os=s.os
 bare:AllBare s'.gens
structure FP(cp:Value->Prop)(P:KP)(w:KS)(outer:List Env)(H:Hp)(s:KJ)(B:Heap)(H':Hp)(s':KJ)(ea:Addr)(cls:Value)(od:KU):Prop extends Fly0 P w outer H s B H' s' where
 fl:km cp B outer ea cls od .none s'.heap
def Gk(cp:Value->Prop)(P:KP)(w:KS):ir:=λouter H s E e s'=>∃ea cls od B H',e=.ref ea/\FP cp P w outer H s B H' s' ea cls od/\H' ea=none/\E cls od H'
abbrev dz(P:KP)(w:KS):ir:=Gk (λv=>v=.none) P w
theorem bY{cp:Value->Prop}{P:KP}{w:KS}{X:Cx}:cJ (Gk cp P w) X (λ_ _ _=>False):=λ_ _ _ _ _ _ _ h=>by
 obtain⟨_,_,_,_,_,_,_,_,f⟩:=h;exact f.elim
theorem xW{P:KP}{w:KS}{H:Hp}{B h h':Heap}(ok:je P w H h)(cov:∀b o,H b=some o->∃ob,B.get? b=some ob)(k:B.StaysIn h)(k':B.StaysIn h'):je P w H h':=λa o e=>
 (ok a o e).stay (λb u hb q=>by
  have hb':∃ob,B.get? b=some ob:=by
   rcases hb with rfl | hb
   ·exact cov _ _ e
   ·exact cov _ _ hb
  obtain⟨ob,hB⟩:=hb';have:=k b ob hB;rw[q]at this;cases this;exact k' b _ hB) (λ_ q=>q) λ_ _ q=>q
theorem bN.there{P:KP}{w:KS}{H:Hp}{h:Heap}{a:Addr}{o:HO}(x:bN P w H h a o):∃ob,h.get? a=some ob:=by
 cases o with
 |lst xs=>obtain⟨_,_,_,_,e⟩:=x;exact⟨_,e⟩
 |tup xs=>obtain⟨_,_,_,ob,e,_⟩:=x;exact⟨_,e⟩
 |dK kvs=>obtain⟨_,_,_,_,o,_,_,e,_⟩:=x;exact⟨_,e⟩
 |dT kvs=>obtain⟨_,_,_,_,o,_,_,e,_⟩:=x;exact⟨_,e⟩
 |set S n=>obtain⟨o,_,_,_,e,_⟩:=x;exact⟨_,e⟩
 |ins C dx fs=>obtain⟨_,_,_,e,_⟩:=x;exact⟨_,e⟩
 |own y=>exact x
 |xd fs=>obtain⟨_,⟨_,_,_,e,_⟩,_⟩:=x;exact⟨_,e⟩
 |rng lo hi=>obtain⟨_,_,_,e⟩:=x;exact⟨_,e⟩
 |frz ob u=>obtain⟨e,_⟩:=x;exact⟨_,e⟩
 |tbl ps=>exact⟨_,show h.get? a=some _ from x⟩
 |met f y=>exact⟨_,show h.get? a=some _ from x⟩
 |ext φ=>obtain⟨_,e,_⟩:=x;exact e
section
variable {P:KP}{w:KS}{K:KG}{mg:KN}{base:Heap}{N:KQ}{qual:Str}{scope:Scope}{f:Addr}{cd:Value}{A:KR}{outer:List Env}{s:KJ}{H:Hp}{E E1:XK}{CX:ir}
theorem Fly0.up{cp:Value->Prop}{X:Cx}{pins:KH}{σ:St}{H1 H':Hp}{s1 s':KJ}{B h':Heap}{ea:Addr}{cls:Value}{od:KU}(I:Inv X pins σ H1 s1)(hex:X.ex=[])(hst:X.stack=X.env::X.outer)(hfr:X.env.frame=some X.env.locals)(hP:X.prog=P)(hw:X.w=w)
  (x:Fly0 P w X.stack H1 s1 B H' s') (fl2:km cp B X.outer ea cls od .none h') (up:s'.heap.UpToSlots h') :
  FP cp P w X.outer X.H₀ X.s₀ B H' {s' with heap:=h' } ea cls od:=by
 have nex:∀b,b∉X.ex:=λb=>by rw[hex];simp
 have nfr:∀b o,X.s₀.heap.get? b=some o->b∉X.fs->b∉lK X.stack:=λb o e hb hm=>by
  rw[hst]at hm;unfold lK at hm;rw[List.filterMap_cons,hfr]at hm;rcases J0.mp hm with z | z
  ·exact absurd (J' e) (by rw[z];exact Nat.not_lt.mpr I.ok.above)
  ·exact hb z
 have sub:∀b,b∈X.fs->b∈lK X.stack:=λb hb=>by
  rw[hst];unfold lK;rw[List.filterMap_cons,hfr];exact J1 _ hb
 have kB:∀b o,X.s₀.heap.get? b=some o->b∉X.fs->∃o',B.get? b=some o':=λb o e hb=>by
  obtain⟨o1,e1⟩:=I.base.there b o e (nex b);exact x.old b o1 e1 (nfr b o e hb)
 have fr0:∀b∈X.fs,X.H₀ b=none:=I.ok.frf;have sl:∀b o,X.s₀.heap.get? b=some o->X.H₀ b=none->b∈X.fs->∃sl,h'.get? b=some {o with slots:=sl}:=λb o e hn hb=>by
  obtain⟨sl1,e1⟩:=I.base.slot b o e hn hb (nex b);have n1:=I.base.free b o e hn (nex b);obtain⟨sl2,e2⟩:=x.un.slot b _ e1 n1 (sub b hb) (by simp);obtain⟨_,o3,e3,nf⟩:=x.ff.mem (sub b hb);rw[e2]at e3;cases e3;obtain⟨sl3,e4⟩:=up b _ e2 nf;exact⟨sl3,e4⟩
 refine⟨⟨fl2.st,fl2.ff,⟨λb o e hn hb _=>?_,λb o e hn hb _=>sl b o e hn hb,λb o e hn _=>?_,λb o e _=>?_,λb xs q=>x.un.tups b xs (I.base.tups b xs q),λb o u q=>x.un.frzs b o u (I.base.frzs b o u q),λb ps q=>?_⟩,xW x.hok x.cov x.st fl2.st,x.cov,kB,x.os.trans I.os,x.bare⟩,fl2⟩
 ·have e1:=I.base.keep b o e hn hb (nex b)
  have n1:=I.base.free b o e hn (nex b);have e2:=x.un.keep b o e1 n1 (nfr b o e hb) (by simp);obtain⟨o',eB⟩:=kB b o e hb;have:=x.st b o' eB;rw[e2]at this;cases this;exact fl2.st b _ eB
 ·obtain⟨o1,e1⟩:=I.base.there b o e (nex b)
  exact x.un.free b o1 e1 (I.base.free b o e hn (nex b)) (by simp)
 ·by_cases hb:b∈X.fs
  ·obtain⟨z,ez⟩:=sl b o e (fr0 b hb) hb
   exact⟨_,ez⟩
  ·obtain⟨o',eB⟩:=kB b o e hb
   exact⟨_,fl2.st b _ eB⟩
 ·obtain⟨m1,e1⟩:=I.base.tbls b ps q
  obtain⟨m2,e2⟩:=x.un.tbls b _ e1;exact⟨m1++m2,by rw[e2,Array.append_assoc]⟩
theorem dN{cp:Value->Prop}(hE:∀c d H',E1 c d H'->E c d H'):cJ (Gk cp P w) (eZ (Gk cp P w) P w K mg base N qual scope f cd A outer s H E) E1:=by
 intro pins σ H1 s1 e s' I x;obtain⟨ea,cls,od,B,H',rfl,fly,hn,q⟩:=x;refine Ef I.ok.frames rfl fly.fl λh' fl2 up=>?_;exact⟨ea,cls,od,B,H',rfl,Fly0.up I rfl rfl rfl rfl rfl fly.toFly0 fl2 up,hn,hE _ _ _ q⟩
def Bk(X:Cx)(E:XK):Prop:=∀(pins:KH) (σ:St) (H:Hp) (s:KJ) (h':Heap) (e:Addr) (cls:Value) (vs:KL),Inv X pins σ H s->Heap.MadeExcOf s.heap h' e cls vs->E cls none H->X.xe (.ref e) {s with heap:=h' }
theorem iM(hE:∀c d H',E1 c d H'->E c d H'):Bk (eZ (dz P w) P w K mg base N qual scope f cd A outer s H E) E1:=by
 intro pins σ H1 s1 h1 e cls vs I x q;have hin:∀env∈(eZ (dz P w) P w K mg base N qual scope f cd A outer s H E).stack,∀b,env.frame=some b->b∈lK (eZ (dz P w) P w K mg base N qual scope f cd A outer s H E).stack:=λenv he b hb=>List.mem_filterMap.mpr ⟨env,he,hb⟩;obtain⟨t0,he0,ht0,htt⟩:=x.there;have nt:∀b,s1.heap.get? b=none->H1 b=none:=λb hb=>by
  cases z:H1 b with
  |none=>rfl
  |some o=>
   obtain⟨ob,hob⟩:=(I.hok b o z).there;rw[hb]at hob;cases hob
 have hff:=PySem.W.funFrames_hide I.stack hin;have fly0:Fly0 P w (eZ (dz P w) P w K mg base N qual scope f cd A outer s H E).stack H1 s1 (PySem.W.hideAll s1.heap (lK (eZ (dz P w) P w K mg base N qual scope f cd A outer s H E).stack)) H1 {s1 with heap:=h1}:=
  ⟨λb o e=>x.keeps b o (PySem.W.of_hideAll _ e),hff.of_keeps λb o e _=>⟨o,x.keeps b o e,rfl⟩,Un.kept x.keeps,I.hok.kept x.keeps,λb o z=>by
   obtain⟨ob,hob⟩:=(I.hok b o z).there;exact⟨ob,PySem.W.hideAll_get _ hob λhm=>by rw[I.stkFree b hm]at z;cases z⟩,λb o e hm=>⟨o,PySem.W.hideAll_get _ e hm⟩,rfl,I.bare⟩
 have newB:(PySem.W.hideAll s1.heap (lK (eZ (dz P w) P w K mg base N qual scope f cd A outer s H E).stack)).get? e=none:=by
  cases z:(PySem.W.hideAll s1.heap (lK (eZ (dz P w) P w K mg base N qual scope f cd A outer s H E).stack)).get? e with
  |none=>rfl
  |some o=>have:=PySem.W.of_hideAll _ z;rw[x.new]at this;cases this
 refine xC (cp:=λv=>v=.none) (s:={s1 with heap:=h1}) I.ok.frames fly0.ff rfl he0 fly0.st newB rfl rfl ⟨_,rfl,rfl⟩ λh' fl2 up=>?_;exact⟨e,cls,none,_,H1,rfl,Fly0.up I rfl rfl rfl rfl rfl fly0 fl2 up,nt e x.new,hE _ _ _ q⟩
end
structure yh(K:KG)(C:Addr)(bmB:KL)(newId:String):Prop where
 exc:PySem.W.excIn K C bmB newId=true
theorem yh.obj{K:KG}{C:Addr}{bmB:KL}{newId:String}{h:Heap}(c:yh K C bmB newId)(X:K.In h):∃bm N nm q bs hdct sn sub ab col dd k0 k1 k2 k3 k5 mN,
  h.get? C=some (excClassObj nm q C N bs bm hdct sn sub ab col dd k0 k1 k2 k3 k5 newId)/\h.Ns N mN/\mN "__init__"=none/\OwnTail h bmB bm/\∃dd' cd sl,K.lookup C=some ⟨.type "type",dd',.cls cd,sl⟩/\cd.mro=.ref C::bm:=by
 have q:=c.exc;unfold PySem.W.excIn at q;cases hl:K.lookup C with
 |none=>rw[hl]at q;cases q
 |some ob=>
  rw[hl]at q
  split at q
  ·rename_i dd cd sl e
   cases e
   split at q
   ·rename_i C' bm k0 k1 k2 k3 n k5 hm hs
    simp only[Bool.and_eq_true,beq_iff_eq,Bool.not_eq_true']at q;obtain⟨⟨⟨⟨⟨rfl,rfl⟩,hdel⟩,ht⟩,hok⟩,hni⟩:=q;have ho:=X _ _ hl;have hsl:sl=#[k0,k1,k2,k3,some (.builtin n),k5]:=Array.toList_inj.mp hs;subst hsl;obtain⟨nm,bs,mro,ns,qn,hd,sn,sub,ab,col,del⟩:=cd;dsimp only at hm hdel hok hni ho;subst hm hdel;exact⟨bm,ns,nm,qn,bs,hd,sn,sub,ab,col,dd,k0,k1,k2,k3,k5,_,ho,.of_isNs (PySem.W.isNs_of_in X hok),PySem.W.nsMap_none_of_in X hok hni,PySem.W.tail_of_in X ht,dd,_,_,rfl,rfl⟩
   ·cases q
  ·cases q
section
variable {X:Cx}{x:Str}{np cpos pos:Pos}{e₀:Expr}{aY:KW}{t:TA}{C:Addr}{B Bn newId nid initId inN:String}{bm bmN:KL}{E:XK}
def qQ(C:Addr)(E:XK)(t:TA):TS:=λ_ σ H=>t σ H λvs H1=>vs.length<=sizeLine/\E (.ref C) none H1
theorem BZ(c:yh X.K C bm newId)(Fn:ExcBaseFacts Bn newId inN bmN)(hBn:bm.contains (.type Bn)=true)(FB:ExcBaseFacts B nid initId bm)(hc:X.calm=true)(hg:Gl X x)(hm:X.mg x=some (.ref C))(hx:Bk X E)(ha:PA X (e₀::aY) t)
  (hd:autoParam ((x==("__debug__":Str))=false) zz2._auto_1)
  (he:autoParam (starEach (e₀::aY) X.env=(false,eval e₀ X.env)::starEach aY X.env) zz0._auto_1) (hpl:autoParam ((backTo cpos (starEach aY X.env)).any (·.1)=false) zz0._auto_1) :
  PS X (.Raise (some (.Call (.Name x np) (e₀::aY) [] cpos)) none pos) (qQ C E t):=by
 intro pins s σ H D I h;obtain⟨tl,N,nm,q,bs,hdct,sn,sub,ab,col,dd,k0,k1,k2,k3,k5,mN,hC,hN,hni,T,_⟩:=c.obj I.mod.kin;refine wpAny_Raise_call_subU (C:=C) (nm:=nm) (q:=q) (N:=N) (bs:=bs) (bm:=tl) (hdct:=hdct) (sn:=sn) (sub:=sub) (ab:=ab) (col:=col) (dd:=dd) (k0:=k0) (k1:=k1) (k2:=k2) (k3:=k3) (k5:=k5)
  Fn hBn FB (mN:=mN) (T.hasType FB.hasBase) (I.ok.hd hc) (by rw[he];show(false||(backTo cpos (starEach aY X.env)).any (·.1))=false;rw[hpl];rfl) hni (iP I hg hm ⟨rfl,?_⟩ hd)
 rw[he];have ha':=ha cpos pins s σ H _ I h;rw[he]at ha';exact Calls.evalArgs_plain (wpAny_mono ha' (λus s₂ ⟨vs,H1,I1,r1,z,q1⟩=>⟨rfl,by rw[<- r1.length];exact z,I1.bk _ _ hC,hN.keeps I1.bk,T.keeps I1.bk,λh' e hx'=>hx pins σ H1 s₂ h' e _ _ I1 hx' q1⟩) λ_ _ y=>y)
end
abbrev TX:=St->Hp->VK->XK->Prop
end L2
namespace L2
open PySem PySem.Spec PyProof.Rows
section
variable {X:Cx}{pins:KH}{σ:St}{H:Hp}{s:KJ}
theorem Inv.moved{ch:KM}{h':Heap}{tk:Nat}(I:Inv X pins σ H s)(hf:∀b∈ch,mx X pins H b)(k:∀b o,b∉ch->s.heap.get? b=some o->h'.get? b=some o):Inv X pins σ H {s with heap:=h',toks:=tk}:=by
 have nH:∀b o,H b=some o->b∉ch:=λb o e z=>by rw[(hf b z).1]at e;cases e
 refine I.call' (s':={s with heap:=h',toks:=tk}) (ch:=ch) rfl ⟨λb o e _ _ hc=>k b o hc e,λb o e _ _ hc=>⟨o.slots,k b o hc e⟩,λb o e n hc=>n,λb o e hc=>⟨o,k b o hc e⟩,λb xs q=>q,λb o y q=>q,λb qs q=>⟨#[],by rw[q];simp⟩⟩
  (λb o e=>(I.hok b o e).stay (λc u hc q=>k c u (by
   rcases hc with rfl | hc
   ·exact nH _ _ e
   ·exact nH _ _ hc) q) (λ_ q=>q) λ_ _ q=>q) I.bare λb hb=>?_
 obtain⟨f0,f1,f2,f3,f4,f5⟩:=hf b hb;exact⟨f3,f1,f4,f5⟩
theorem Inv.movedT{ch:KM}{h':Heap}{tk:Nat}{T:Addr}{ob:HO}(I:Inv X pins σ H s)(hf:∀b∈ch,mx X pins H b)(k:∀b o,b∉ch->s.heap.get? b=some o->h'.get? b=some o)(hT:s.heap.objs.size<=T)(new:bN X.prog X.w (aC H T ob) h' T ob) :
  Inv X pins σ (aC H T ob) {s with heap:=h',toks:=tk}:=by
 have nH:∀b o,H b=some o->b∉ch:=λb o e z=>by rw[(hf b z).1]at e;cases e
 have hn:H T=none:=I.hok.fresh hT;have nT:∀b o,s.heap.get? b=some o->b≠T:=λb o e z=>by rw[z]at e;exact absurd (J' e) (Nat.not_lt.mpr hT)
 refine I.call' (s':={s with heap:=h',toks:=tk}) (ch:=ch) rfl ⟨λb o e _ _ hc=>k b o hc e,λb o e _ _ hc=>⟨o.slots,k b o hc e⟩,λb o e n hc=>by rw[ai (nT b o e)];exact n,λb o e hc=>⟨o,k b o hc e⟩,λb xs q=>by rw[ai (av q hn)];exact q,λb o y q=>by rw[ai (av q hn)];exact q,λb qs q=>⟨#[],by rw[ai (av q hn),q];simp⟩⟩
  (λb o e=>?_) I.bare λb hb=>?_
 ·by_cases hb:b=T
  ·subst hb
   rw[ae]at e;cases e;exact new
  ·rw[ai hb]at e
   exact(I.hok b o e).stay (λc u hc q=>k c u (by
    rcases hc with rfl | hc
    ·exact nH _ _ e
    ·exact nH _ _ hc) q) (λc q=>by rw[ai (av q hn)];exact q) λc xs q=>by rw[ai (av q hn)];exact q
 ·obtain⟨f0,f1,f2,f3,f4,f5⟩:=hf b hb
  exact⟨f3,f1,f4,f5⟩
end
end L2
namespace PySem.W
open PySem PySem.Spec PySem.Calls PyProof.Rows
section
variable {prog:KP}{w:KS}{A:KR}{E:KF}{s:KJ}{K:Frag}{x D:Addr}{ox:Obj}{odo:Option Obj}{name:Str}
structure XTy(K:Frag)(D:Addr):Prop where
 ga:findIn K (.ref D) "__getattribute__"=some (some (.builtin "BaseException.__getattribute__"))
 gh:findIn K (.ref D) "__getattr__"=some none
 mb:mroIn K D (.type "BaseException")=some true
 mo:mroIn K D (.type "object")=some true
 ha:findIn K (.ref D) "__class__"=some (some (.builtin "object.__class__"))
 hn:specialIn K (.builtin "object.__class__") "__get__"=some (some (.builtin "getset_descriptor.__get__"))
 tk:takesIn K (.builtin "object.__class__")=some true
 cl:∃dd cd sl,K.lookup D=some ⟨.type "type",dd,.cls cd,sl⟩
end
end PySem.W
namespace L2
open PySem PySem.Spec PyProof.Rows
structure XR(K:KG)(C:Addr):Prop where
 ex:∃(bm bmN:KL) (newId Bn inN B nid initId:String),yh K C bm newId/\ExcBaseFacts Bn newId inN bmN/\bm.contains (.type Bn)=true/\ExcBaseFacts B nid initId bm
theorem ge{X:Cx}{x:Str}{np cpos pos:Pos}{e₀:Expr}{aY:KW}{t:TA}{C:Addr}{E:XK}(c:XR X.K C)(hc:X.calm=true)(hg:Gl X x)(hm:X.mg x=some (.ref C))(hx:Bk X E)(ha:PA X (e₀::aY) t)
  (hd:autoParam ((x==("__debug__":Str))=false) zz2._auto_1)
  (he:autoParam (starEach (e₀::aY) X.env=(false,eval e₀ X.env)::starEach aY X.env) zz0._auto_1) (hpl:autoParam ((backTo cpos (starEach aY X.env)).any (·.1)=false) zz0._auto_1) :
  PS X (.Raise (some (.Call (.Name x np) (e₀::aY) [] cpos)) none pos) (qQ C E t):=by
 obtain⟨bm,bmN,newId,Bn,inN,B,nid,initId,c1,c2,c3,c4⟩:=c.ex;exact BZ c1 c2 c3 c4 hc hg hm hx ha hd he hpl
section
variable {P:KP}{w:KS}{K:KG}{mg:KN}{base:Heap}
theorem dw.okX{x qual:Str}{st:Stmt}{f:Addr}{fd:KO}{N ps:KQ}{k:Nat}{sp:Sp}(F:dw K x qual st f fd)(S:aB N ps (ak st))(len:∀vs H Q E,sp vs H Q E->vs.length=ps.length)
  (hbody:∀(cdv:Value) (A:KR) (outer:List Env) (s:KJ) (H:Hp) (vs:List V) (Q:VK) (E:XK),cw k (A.deeper (envOfC qual (ak st) s.heap.objs.size f cdv))->sp vs H Q E ->
   ∃t,ud (eZ (dz P w) P w K mg base N qual (ak st) f cdv A outer s H E) (b9 st) t/\t {nx:=λ_ H'=>Q .non H',rt:=Q} (start N vs) H):aR P w K mg base (dz P w) (k+1) f fd ps sp:=by
 obtain⟨oc,od,kV,doc,pm,an,cdv,ct,osl,rfl,lk,hcd⟩:=F.ex;exact zZ lk hcd S len λA outer s H vs Q E hr hsp=>hbody cdv A outer s H vs Q E hr hsp
theorem aR.lift{CX:ir}{k:Nat}{f:Addr}{fd:KO}{ps:KQ}{sp:Sp}(F:aR P w K mg base bB k f fd ps sp):aR P w K mg base CX k f fd ps sp:=
 ⟨F.len,λA outer s H args us vs Q E hr he hb hv hs=>codeAny_mono (F.run A outer s H args us vs Q E hr he hb hv hs) λr s' hq=>by
  cases r with
  |error e=>exact False.elim hq
  |ok fl=>cases fl<;>exact hq⟩
theorem dL.lift{CX:ir}{k:Nat}{x:Str}{ps:KQ}{sp:Sp}(c:dL P w K mg base bB k x ps sp):dL P w K mg base CX k x ps sp:=by
 obtain⟨f,fd,F,r⟩:=c.ex;exact⟨f,fd,F.lift,r⟩
end
theorem mR{X:Cx}{K:KG}{es:KW}{k:Nat}{t:DR}{n:Nat}{pos:Pos}(hK:X.K=K)(hc:X.calm=true)(h:Fm X es t)
  (hn:autoParam ((assignEach es X.env).length=n) zz0._auto_1) (hst:autoParam ((assignEach es X.env).findIdx? (·.1)=none) zz0._auto_1):PG X (.Tuple es k pos) (BV K n t):=hK▸jE hc h hn hst
end L2
namespace L2
open PySem PySem.Spec PyProof.Rows
def FY(K:KG)(a:Addr):It:=
 ⟨λi H=>∃xs x,aQ K H a xs/\xs[i]?=some x,λi H v H'=>∃T x,v=.ref T/\H T=none/\H'=aC H T (.tup [.int (i:Int),x])/\∀xs,aQ K H a xs->xs[i]?=some x,λi H=>∃xs,aQ K H a xs/\xs.length<=i⟩
theorem yR{P:KP}{w:KS}{K:KG}{elts:KW}{x1:Nat}{tp:Pos}{e it l:Addr}(hei:e≠it) :
  v3 P w K (.Tuple elts x1 tp) (FY K l) [e,it] e (λi h=>(∃old,IsEnum h e it i old)/\h.IsListIter it l i) where
 mem:=by simp
 obj:=λi h st b hb=>by
  obtain⟨⟨old,he⟩,⟨o1,e1,c1,d1⟩⟩:=st;simp only[J0,List.not_mem_nil,or_false]at hb;rcases hb with rfl | rfl
  ·exact⟨_,he,λv q=>by cases q⟩
  ·exact⟨_,e1,λv q=>by rw[d1]at q;cases q⟩
 keep:=λi h h' st hk=>by
  obtain⟨⟨old,he⟩,h1⟩:=st;exact⟨⟨old,hk e (by simp) _ he⟩,h1.at λo e'=>hk it (by simp) o e'⟩
 item:=by
  intro X hP hw hK hc i pins s σ H E I hf st hg;subst hP hw hK;obtain⟨xs,x,hq,hx⟩:=hg;obtain⟨its,rv,p,hz⟩:=I.list hq;obtain⟨u,hu,ru⟩:=rv.get hx;obtain⟨⟨old,he⟩,h1⟩:=st;obtain⟨o1,e1,_⟩:=id h1;refine wpAny_pyNext_enum_item he h1 p.isList (x:=u) (by simpa using hu) hei λh' a1 a2 a3 a4 hk=>?_;refine⟨_,rfl,wpAny_letOwnedTupleGo_enum a1 λh2 he2 hs2=>?_⟩;have hfree:H s.heap.objs.size=none:=I.hok.fresh (J8 _);have lt:∀{c o},s.heap.get? c=some o->s.heap.objs.size≠c:=λe=>Nat.ne_of_gt (J' e);have kk:∀c o,c∉[e,it]->s.heap.get? c=some o->h2.get? c=some o:=λc o hc q=>
   hs2.extBut _ _ (λz=>hc (by simp[z])) (hk c o (λz=>hc (by simp[z])) (λz=>hc (by simp[z])) q)
  have hT:h2.get? s.heap.objs.size=some {cls:=.type "tuple",data:=.seq #[.int i s.toks,u]}:=hs2.extBut _ _ (lt he) a3;refine⟨.ref s.heap.objs.size,aC H s.heap.objs.size (.tup [.int i,x]),I.movedT (tk:=s.toks+1) hf kk (J8 _) ⟨show 2<=sizeLine from by decide +kernel,[.int i s.toks,u],.cons ⟨_,rfl⟩ (.cons ru .nil),_,hT,rfl,_,rfl⟩,rfl,
   ⟨_,x,rfl,hfree,rfl,λzs hzs=>by rw[I.list_inj hzs hq];exact hx⟩,⟨⟨u,by simpa using he2⟩,a2.extBut hs2.extBut (Ne.symm hei)⟩,λb hb=>?_⟩
  have hlt:b≠s.heap.objs.size:=by
   simp only[J0,List.not_mem_nil,or_false]at hb;rcases hb with rfl | rfl
   ·exact(lt he).symm
   ·exact(lt e1).symm
  rw[ai hlt];exact(hf b hb).1
 done:=by
  intro X hP hw hK hc i pins s σ H E I hf st hg;subst hP hw hK;obtain⟨xs,hq,hx⟩:=hg;obtain⟨its,rv,p,hz⟩:=I.list hq;obtain⟨⟨old,he⟩,h1⟩:=st;have l1':=rv.length;refine wpAny_pyNext_enum_end (I.ok.hd hc) he h1 p.isList (by simp;omega) λh' hk=>⟨rfl,I.moved (tk:=s.toks) hf λc o hc e=>hk c o (λq=>hc (by simp[q])) e⟩
 self:=λ_ _ _ _ _ st h=>let ⟨⟨_,he⟩,_⟩:=st;wpAny_pyIter_enum he h
section
variable {X:Cx}{elts:KW}{x1:Nat}{tp:Pos}
def A7(K:KG)(ta:TA):TI:=λσ H R=>ta σ H λvs H1=>∃a xs,vs=[.ref a]/\aQ K H1 a xs/\R (FY K a) H1
theorem mU{a:Expr}{ta:TA}{p pos:Pos}(hg:Gl X "enumerate")(hm:X.mg "enumerate"=none)(ha:PA X [a] ta)(hs:autoParam (starEach [a] X.env=[(false,eval a X.env)]) zz0._auto_1):PI X (.Tuple elts x1 tp) (.Call (.Name "enumerate" p) [a] [] pos) (A7 X.K ta):=by
 intro pins s σ H R I h;refine Call_ (fg I hg hm boot_enumerate (PyProof.Rows.callWith_type1 (bU (ha pos pins s σ H _ I h) λus s1 ⟨vs,H1,I1,r1,q1⟩=>?_) (by rw[hs];rfl) (by rfl)));obtain⟨l,xs,rfl,hq,q⟩:=q1;obtain⟨u,rfl,ru⟩:=r1.one;cases ru;obtain⟨its,rv,p1,_⟩:=I1.list hq;refine call_enumerate_list p1.isList λh' z1 z2 z3 hk=>?_;have I2:Inv X pins σ H1 {s1 with heap:=h' }:=I1.kept (t':=s1.toks) hk;refine wpAny_pyIter_enum z1 ?_;refine⟨s1.heap.objs.size+1,[s1.heap.objs.size+1,s1.heap.objs.size],_,_,H1,rfl,I2,yR (l:=l) (Nat.ne_of_gt (Kf _)),⟨⟨_,z1⟩,z2⟩,λb hb=>?_,q⟩;have hb':s1.heap.objs.size<=b:=by
  simp only[J0,List.not_mem_nil,or_false]at hb;rcases hb with e | e<;>(rw[e];first | exact J8 _ | exact Nat.le_add_right _ _)
 exact I1.fpOk hb' (I1.hok.fresh hb')
end
section
variable {K:KG}{g:TG}{tb:TS}{D:il}{σ:St}{H:Hp}
theorem kM{a:Addr}{xs:List V}(Pv:Nat->St->Hp->Prop)(h0:Pv 0 σ H)(hl:∀i σ H,i<=xs.length->Pv i σ H->aQ K H a xs)
  (hs:∀(i:Nat) x σ H T,xs[i]?=some x->Pv i σ H->H T=none->g (.ref T) σ (aC H T (.tup [.int (i:Int),x])) λσ2 H2=>tb {D with nx:=Pv (i+1),ct:=Pv (i+1),bk:=D.nx} σ2 H2) (hd:∀σ H,Pv xs.length σ H->D.nx σ H):yg (FY K a) g tb D σ H:=by
 refine⟨λi m σ H=>m=xs.length-i/\i<=xs.length/\Pv i σ H,⟨xs.length,by simp,J9 _,h0⟩,?_⟩;rintro i m σ H ⟨rfl,hi,p⟩;have q:=hl i σ H hi p
 by_cases hlt:i<xs.length
 ·refine .inr ⟨⟨xs,xs[i],q,by simp[hlt]⟩,Pv (i+1),λσ' H' p'=>⟨xs.length-(i+1),⋯,rfl,hlt,p'⟩,λx H' y=>?_⟩
  obtain⟨T,x,rfl,hT,rfl,y⟩:=y;exact hs i x σ _ T (y xs q) p hT
 ·have e:i=xs.length:=by omega
  subst e;exact .inl ⟨⟨xs,q,J8 _⟩,hd σ H p⟩
end
end L2
namespace PySem
open Sem (wp)
section
variable {M:Model}{A:KR}{E:KF}{env:Env}
variable {nm q:Str}{C N:Addr}{bs bm:KL}{hdct:Bool}{sn:KQ}{sub:KL}{ab:Bool}{col:Option Bool}{dd:KU}{k0 k1 k2 k3 k5:Option Value}{newId:String}
theorem oZ{s:KJ}{x:Sem Value}{Q:Flow->Shared->Prop}(hbase:bm.contains (.type "BaseException")=true)(hh:A.handled=none)
  (h:wpAny M A x (λv s₁=>∃e oe vs,v=.ref e/\s₁.heap.get? C=some (excClassObj nm q C N bs bm hdct sn sub ab col dd k0 k1 k2 k3 k5 newId)/\s₁.heap.get? e=some oe/\oe.cls=.ref C/\oe.data=.fields vs/\vs[1]?=some .none/\E (.ref e) s₁) E s) :
  wpAny M A (raiseStmt env (some x) none) Q E s:=by
 have hcB:(Value.ref C::bm).contains (.type "BaseException")=true:=by rw[List.contains_cons,hbase,Bool.or_true]
 unfold raiseStmt;refine wpAny_bind (wpAny_mono h (λv s₁ h₁=>?_) λ_ _ x=>x);obtain⟨e,⟨oc,od,dt,sl⟩,vs,rfl,hC,he,hc,hd,hv,hE⟩:=h₁;dsimp only at hc hd;subst hc hd;obtain⟨hp,g,d,tk,os⟩:=s₁
 repeat (first | with_reducible refine wpAny_loadPart_at he ?_ | with_reducible refine wpAny_loadPart_at hC ?_ | (with_reducible refine wpAny_isSubtype_exc hC ?_;rw[hcB]) | wp_step)
 rw[hv];refine wpAny_pure ?_;rw[if_neg nofun];exact wpAny_pure (wpAny_raiseNew_none hh hE)
end
section
variable {prog:KP}{w:KS}{A:KR}{E:KF}{h:Heap}{g:Array GenState}{d:Drawn}{t:Nat}{os:OsState}
variable {nm q:Str}{C N:Addr}{bs bm bmB:KL}{hdct:Bool}{sn:KQ}{sub:KL}{ab:Bool}{col:Option Bool}{dd:KU}{k0 k1 k2 k3 k5:Option Value}{B Bn newId nid initId inN:String}{bmN:KL}{K:KG}
theorem jd(Fn:ExcBaseFacts Bn newId inN bmN)(hBn:bmB.contains (.type Bn)=true)(F:ExcBaseFacts B nid initId bmB)(T:OwnTail h bmB bm)(X:K.In h){aY:KL}{fI:Addr}{Q:Fin->Shared->Prop}
  (hC:h.get? C=some (excClassObj nm q C N bs bm hdct sn sub ab col dd k0 k1 k2 k3 k5 newId)) (hi:PySem.W.findIn K (.ref C) "__init__"=some (some (.ref fI))) (hf:PySem.W.typeIn K (.ref fI)=some (.type "function"))
  (hq:∀h' e,Heap.MadeExcOf h h' e (.ref C) aY ->
   wpAny (model prog w) A (call (.ref fI) (.ref e::aY)) (λr s'=>r=.none/\Q (.done (.ret (.ref e))) s') E ⟨h',g,d,t,os⟩) (hrest:aY.length<=sizeLine) :
  wpAny (model prog w) A (Builtin.«type.__call__» ⟨.ref C::aY,[]⟩) Q E ⟨h,g,d,t,os⟩:=by
 repeat (first | with_reducible refine wpAny_loadPart_at hC ?_ | with_reducible refine wpAny_madeBy_exc hC ?_ | wp_step)
 refine codeAny_call_builtin_code (Code.quiet_builtin _ Fn.quiet) (wpAny_check_new_subU Fn hBn T hC ?_);refine codeAny_exc_new_subU Fn hBn F T hC ?_ hrest;show wpAny _ _ _ _ _ _;have hC₁:=JL {cls:=.ref C,data:=.fields #[.ref h.objs.size,.none,.none,.none,.bool false,.none]}
  (JL {cls:=.type "tuple",data:=.seq aY.toArray} hC)
 have hget:((h.push {cls:=.type "tuple",data:=.seq aY.toArray}).push
   {cls:=.ref C,data:=.fields #[.ref h.objs.size,.none,.none,.none,.bool false,.none]}).get? (h.objs.size+1)=some
   {cls:=.ref C,data:=.fields #[.ref h.objs.size,.none,.none,.none,.bool false,.none]}:=by heap_get
 have hcC:(Value.ref C::bm).contains (.ref C)=true:=by simp
 have X₁:K.In ((h.push {cls:=.type "tuple",data:=.seq aY.toArray}).push {cls:=.ref C,data:=.fields #[.ref h.objs.size,.none,.none,.none,.bool false,.none]}):=
  X.keeps λb o e=>JL _ (JL _ e)
 unfold isInstance
 repeat (first | with_reducible refine wpAny_loadPart_at hget ?_ | (with_reducible refine wpAny_isSubtype_exc hC₁ ?_;rw[hcC]) | wp_step)
 show wpAny _ _ (typeLookup (.ref C) _) _ _ _;refine(PySem.W.looks_findIn X₁ hi).at ?_;refine wpAny_holding (wpAny_bind ((PySem.W.bind_fn X₁ _ hf).at ?_));refine wpAny_bind (wpAny_mono (hq _ (h.objs.size+1) ⟨λb o hb=>JL _ (JL _ hb),Heap.get?_none_of_le (Nat.le_succ _),h.objs.size,hget,Heap.get?_none_of_le (J8 _),?_⟩) (λr s' hr=>?_) λ_ _ x=>x)
 ·exact JL _ (Heap.get?_push_at rfl rfl)
 ·obtain⟨rfl,hQ⟩:=hr
  wp_walk
  exact hQ
theorem oR(Fn:ExcBaseFacts Bn newId inN bmN)(hBn:bmB.contains (.type Bn)=true)(F:ExcBaseFacts B nid initId bmB)(T:OwnTail h bmB bm)(X:K.In h){aY:KL}{fI:Addr}{Q:KF}
  (hC:h.get? C=some (excClassObj nm q C N bs bm hdct sn sub ab col dd k0 k1 k2 k3 k5 newId)) (hi:PySem.W.findIn K (.ref C) "__init__"=some (some (.ref fI))) (hf:PySem.W.typeIn K (.ref fI)=some (.type "function"))
  (hq:∀h' e,Heap.MadeExcOf h h' e (.ref C) aY ->
   wpAny (model prog w) (A.under (.builtin "type.__call__" ⟨.ref C::aY,[]⟩)) (call (.ref fI) (.ref e::aY)) (λr s'=>r=.none/\Q (.ref e) s') E ⟨h',g,d,t,os⟩) (hrest:aY.length<=sizeLine) :
  wpAny (model prog w) A (call (.ref C) aY) Q E ⟨h,g,d,t,os⟩:=by
 have f1:=tc_lookup;have f2:=tc_bind (.ref C);have hT:(⟨h,g,d,t,os⟩:Shared).TypeIs (.ref C) "type":=⟨_,hC,rfl⟩;refine wpAny_call (codeAny_of_tree ?_);show wpAny _ _ (callAny (.ref C) _) _ _ _
 repeat (any_goals (first | assumption | with_reducible refine wpAny_loadPart_at hC ?_ | wp_step))
 refine⟨rfl,?_⟩;refine codeAny_call_builtin_at (Code.quiet_builtin _ (by decide +kernel)) entry_typeCall (wpAny_check_type_call_sub hC (jd (hrest:=hrest) Fn hBn F T X hC hi hf λh' e hm=>?_));exact hq h' e hm
end
section
variable {prog:KP}{w:KS}{A:KR}{E:KF}{s:KJ}{env:Env}
variable {nm q:Str}{C N:Addr}{bs bm bmB:KL}{hdct:Bool}{sn:KQ}{sub:KL}{ab:Bool}{col:Option Bool}{dd:KU}{k0 k1 k2 k3 k5:Option Value}{B Bn newId nid initId inN:String}{bmN:KL}{K:KG}
theorem kO(Fn:ExcBaseFacts Bn newId inN bmN)(hBn:bmB.contains (.type Bn)=true)(F:ExcBaseFacts B nid initId bmB){x:Str}{np cpos pos:Pos}{args:KW}{fI:Addr}{Q:Flow->Shared->Prop}
  (hbase:bm.contains (.type "BaseException")=true) (hh:A.handled=none) (hplain:(backTo cpos (starEach args env)).any (·.1)=false) (hi:PySem.W.findIn K (.ref C) "__init__"=some (some (.ref fI))) (hf:PySem.W.typeIn K (.ref fI)=some (.type "function"))
  (h:wpAny (model prog w) A (eval (.Name x np) env) (λf s₁=>f=.ref C/\wpAny (model prog w) A (evalArgs (.ref C) true (backTo cpos (starEach args env)) [])
   (λa s₂=>a.kw=[]/\a.pos.length<=sizeLine/\s₂.heap.get? C=some (excClassObj nm q C N bs bm hdct sn sub ab col dd k0 k1 k2 k3 k5 newId)/\K.In s₂.heap/\OwnTail s₂.heap bmB bm /\
    ∀h' e,Heap.MadeExcOf s₂.heap h' e (.ref C) a.pos->wpAny (model prog w) (A.under (.builtin "type.__call__" ⟨.ref C::a.pos,[]⟩)) (call (.ref fI) (.ref e::a.pos))
     (λr s'=>r=.none/\∃oe vs,s'.heap.get? C=some (excClassObj nm q C N bs bm hdct sn sub ab col dd k0 k1 k2 k3 k5 newId)/\s'.heap.get? e=some oe/\oe.cls=.ref C/\oe.data=.fields vs/\vs[1]?=some .none/\E (.ref e) s') E {s₂ with heap:=h' }) E s₁) E s) :
  wpAny (model prog w) A (exec (.Raise (some (.Call (.Name x np) args [] cpos)) none pos) env) Q E s:=by
 rw[arm_exec_Raise];simp only[evalOpt,Option.map];refine wpAny_bind (wpAny_standAt (oZ (C:=C) (nm:=nm) (q:=q) (N:=N) (bs:=bs) (bm:=bm) (hdct:=hdct) (sn:=sn) (sub:=sub) (ab:=ab) (col:=col) (dd:=dd) (k0:=k0) (k1:=k1) (k2:=k2) (k3:=k3) (k5:=k5) (newId:=newId) hbase hh (wpAny_bind (wpAny_mono (wpAny_Call_ofName (wpAny_mono h (λf s₁ h₁=>?_) λ_ _ x=>x)) (λv s₃ h₃=>wpAny_bind (wpAny_standAt (wpAny_pure h₃))) λ_ _ x=>x))));obtain⟨rfl,h₁⟩:=h₁;unfold callWith;refine wpAny_bind (wpAny_holding (wpAny_mono h₁ (λa s₂ h₂=>wpAny_bind (wpAny_standAt ?_)) λ_ _ x=>x));obtain⟨apos,akw⟩:=a;obtain⟨hkw,hlen,hC,hX,T,h₂⟩:=h₂;obtain rfl:akw=[]:=hkw;obtain⟨hp,g,d,tk,os⟩:=s₂;simp only[hplain];refine wpAny_bind (wpAny_keeperOf_exc hC ?_);refine wpAny_bind (oR (hrest:=hlen) Fn hBn F T hX hC hi hf λh' e hm=>wpAny_mono (h₂ h' e hm) (λr s' hr=>⟨hr.1,wpAny_bind (wpAny_holding (wpAny_point (wpAny_pure ?_)))⟩) λ_ _ x=>x);obtain⟨_,oe,vs,a1,a2,a3,a4,a5,a6⟩:=hr;exact⟨e,oe,vs,rfl,a1,a2,a3,a4,a5,a6⟩
end
end PySem
namespace PySem.W
open PySem PySem.Spec PySem.Calls PyProof.Rows
open Builtin Builtin.ObjectAttr
def excOut(K:Frag)(C:Addr)(bmB:KL)(newId:String):Bool:=match K.lookup C with
 |some ⟨.type "type",_,.cls cd,sl⟩=>(match cd.mro,sl.toList with
  | .ref C'::bm,[_,_,_,_,some (.builtin n),_]=>C'==C&&n==newId && !cd.hasDel&&tailIn K bmB bm&&nsOkIn K cd.ns
  |_,_=>false)
 |_=>false
def strip:List Value->List Value
 | .ref _::r=>strip r
 |l=>l
theorem kx(self:Value):∀{l bm:KL},strip l=bm->refuseLoop self "__setattr__" bm=pure ()->refuseLoop self "__setattr__" l=pure ()
 | [],_,e,h=>by rw[show([]:List Value)=_ from e];exact h
 | .ref c::r,_,e,h=>by rw[refuseLoop_ref];exact kx self (l:=r) e h
 | .type n::r,_,e,h=>by rw[show(Value.type n::r)=_ from e];exact h
 | .none::r,_,e,h=>by rw[show(Value.none::r)=_ from e];exact h
 | .bool b::r,_,e,h=>by rw[show(Value.bool b::r)=_ from e];exact h
 | .int i t::r,_,e,h=>by rw[show(Value.int i t::r)=_ from e];exact h
 | .float i t::r,_,e,h=>by rw[show(Value.float i t::r)=_ from e];exact h
 | .str i t::r,_,e,h=>by rw[show(Value.str i t::r)=_ from e];exact h
 | .bytes i t::r,_,e,h=>by rw[show(Value.bytes i t::r)=_ from e];exact h
 | .builtin n::r,_,e,h=>by rw[show(Value.builtin n::r)=_ from e];exact h
 | .ellipsis::r,_,e,h=>by rw[show(Value.ellipsis::r)=_ from e];exact h
 | .notImplemented::r,_,e,h=>by rw[show(Value.notImplemented::r)=_ from e];exact h
structure XSt(K:Frag)(C:Addr)(f:Str):Prop where
 sa:findIn K (.ref C) "__setattr__"=some (some (.builtin "object.__setattr__"))
 st:∃cd,clsIn K C=some cd/\strip cd.mro=[.type "ValueError",.type "Exception",.type "BaseException",.type "object"]/\cd.hasDict=true/\cd.mro.contains (.type "object")=true/\cd.mro.isEmpty=false
 no:findIn K (.ref C) f=some none
section
variable {prog:KP}{w:KS}{A:KR}{E:KF}{s:KJ}{K:Frag}{x C:Addr}{ox:Obj}{vs:Array Value}{name:Str}{v:Value}
theorem set_new{Q:Unit->Shared->Prop}(X:K.In s.heap)(c:XSt K C name)(hx:s.heap.get? x=some ox)(hcl:ox.cls=.ref C)(hdn:ox.dict=none)(hdt:ox.data=.fields vs)
  (h:∀h' t',(∀b o,b≠x->s.heap.get? b=some o->h'.get? b=some o)->h'.get? x=some {ox with dict:=some s.heap.objs.size}->h'.Ns1 s.heap.objs.size (λy=>if y=name then some v else none)->Q () {s with heap:=h',toks:=t' }) :
  wpAny (model prog w) A (setAttr (.ref x) name v) Q E s:=by
 obtain⟨cd,hc,hst,hhd,hob,hne⟩:=c.st;obtain⟨oc,od,dt,sl⟩:=ox;dsimp only at hcl hdn hdt;subst hcl hdn hdt;have J:InstAt s.heap x ⟨.ref C,none,.fields vs,sl⟩ C none:=⟨hx,rfl,rfl,trivial⟩;obtain⟨hh,g,d,t,os⟩:=s;have SF:=PySem.F.store_object;refine set_plain X J c.sa ?_;have sub:Looks (model prog w) hh (isInstance (.ref x) (.type "object")) true:=J.type.andThen (looks_mroIn X (by unfold mroIn;rw[hc,Option.bind_some,if_neg (by rw[hne];decide),hob]));refine codeAny_call_builtin SF.slot.plain SF.entry (@check_slot (model prog w) _ _ _ "object.__setattr__" "object" "__setattr__" (.ref x) [.str name t,v] [] _ SF.kind SF.split sub (SF.args (.ref x) (.str name t) v) ?_);have hm:Looks (model prog w) hh (mroOf (.ref C)) cd.mro:=(looks_clsIn X hc).andThen .now;rw[osa_eq,refuse_eq];refine wpAny_bind (wpAny_bind (J.type.at (wpAny_bind (hm.at ?_))));rw[kx _ hst (PySem.F.store_ValueError.passes _)];refine wpAny_pure (wpAny_bind (J.type.at (wpAny_bind ((looks_findIn X c.no).at (wpAny_bind (wpAny_pure ?_))))));have hx₁:(hh.push {cls:=.type "dict",data:=.dict #[]}).get? x=some ⟨.ref C,none,.fields vs,sl⟩:=JL _ hx;have hxs:x≠hh.objs.size:=J4 (J' hx);show wpAny _ _ (storeInOwnDict (.ref x) (.ref C) (.str name t) name v false) _ _ _;refine wpAny_bind (wpAny_pure (wpAny_bind (wpAny_bind (wpAny_loadPart hx ?_))));refine wpAny_bind ((looks_clsIn X hc).at ?_);rw[if_neg (by rw[hhd];decide)];dsimp only;rw[if_neg (by simp[typeHasDict])];refine wpAny_bind (wpAny_alloc' ?_);refine wpAny_bind (wpAny_update' hx₁ ?_);refine wpAny_pure ?_;have hgd:((hh.push {cls:=.type "dict",data:=.dict #[]}).update x λo=>{cls:=o.cls,dict:=some hh.objs.size,data:=o.data,slots:=o.slots}).get? hh.objs.size
   = some {cls:=.type "dict",data:=.dict #[]}:=
  (Heap.get?_update_ne _ _ _ _ hxs.symm).trans (Heap.get?_push_at rfl rfl)
 have hnd:((hh.push {cls:=.type "dict",data:=.dict #[]}).update x λo=>{cls:=o.cls,dict:=some hh.objs.size,data:=o.data,slots:=o.slots}).Ns hh.objs.size (λ_=>none):=
  ⟨_,#[],_,hgd,rfl,λe he=>absurd he (by simp),λ_=>rfl⟩
 show wpAny _ _ (storeInDict hh.objs.size (.str name t) name v) _ _ _;unfold storeInDict newKeyGuard;refine wpAny_bind (wpAny_pure (wpAny_bind (wpAny_nsSet1 (Heap.Ns1.of_empty hnd) λh' hn' hs=>?_)));obtain⟨oD,esD,epD,hoD,hdD,hcD⟩:=hn'.count (Within.cons name v Within.nil);refine wpAny_bind (wpAny_lookBehind hoD (by rw[hdD];exact pastItsLine_dict (Kd hcD (by rw[JW,List.length_nil,sizeLine_eq];omega))) ?_);refine wpAny_pure (h h' _ (λb o hb e=>(hs.2 b (J4 (J' e))).trans ((Heap.get?_update_ne _ _ _ _ hb).trans (JL _ e))) ?_ hn');exact(hs.2 x hxs).trans (JV _ hx₁ rfl)
end
end PySem.W
namespace L2
open PySem PySem.Spec PyProof.Rows
structure Av(K:KG)(C:Addr)(bmB:KL)(newId:String):Prop where
 exc:PySem.W.excOut K C bmB newId=true
theorem Av.obj{K:KG}{C:Addr}{bmB:KL}{newId:String}{h:Heap}(c:Av K C bmB newId)(X:K.In h):∃bm N nm q bs hdct sn sub ab col dd k0 k1 k2 k3 k5,
  h.get? C=some (excClassObj nm q C N bs bm hdct sn sub ab col dd k0 k1 k2 k3 k5 newId)/\OwnTail h bmB bm/\∃dd' cd sl,K.lookup C=some ⟨.type "type",dd',.cls cd,sl⟩/\cd.mro=.ref C::bm:=by
 have q:=c.exc;unfold PySem.W.excOut at q;cases hl:K.lookup C with
 |none=>rw[hl]at q;cases q
 |some ob=>
  rw[hl]at q
  split at q
  ·rename_i dd cd sl e
   cases e
   split at q
   ·rename_i C' bm k0 k1 k2 k3 n k5 hm hs
    simp only[Bool.and_eq_true,beq_iff_eq,Bool.not_eq_true']at q;obtain⟨⟨⟨⟨rfl,rfl⟩,hdel⟩,ht⟩,hok⟩:=q;have ho:=X _ _ hl;have hsl:sl=#[k0,k1,k2,k3,some (.builtin n),k5]:=Array.toList_inj.mp hs;subst hsl;obtain⟨nm,bs,mro,ns,qn,hd,sn,sub,ab,col,del⟩:=cd;dsimp only at hm hdel hok ho;subst hm hdel;exact⟨bm,ns,nm,qn,bs,hd,sn,sub,ab,col,dd,k0,k1,k2,k3,k5,ho,PySem.W.tail_of_in X ht,dd,_,_,rfl,rfl⟩
   ·cases q
  ·cases q
def Ea(ea:Addr)(cls:Value)(od:KU)(h:Heap):Prop:=∃o vs,h.get? ea=some o/\o.cls=cls/\o.dict=od/\o.data=.fields vs/\vs[1]?=some .none/\vs[2]?=some .none/\vs.size=6
abbrev xn(ea:Addr)(cls:Value)(od:KU):HO:=.ext (Ea ea cls od)
theorem pO{ea:Addr}{cls:Value}{od:KU}:∀h1 h2:Heap,Ea ea cls od h1->(∀o,h1.get? ea=some o->h2.get? ea=some o)->Ea ea cls od h2:=
 λh1 h2 ⟨o,ws,e1,e2,e3,e4,e5⟩ k=>⟨o,ws,k o e1,e2,e3,e4,e5⟩
section
variable {X:Cx}{o value:Expr}{f:Str}{pos pos':Pos}{ta tv:TE}
def AB(K:KG)(ta tv:TE)(f:Str):TS:=λD σ H=>tv σ H λy H1=>ta σ H1 λx H2=>∃a C,x=.ref a/\H2 a=some (xn a (.ref C) none)/\PySem.W.XSt K C f /\
 ∀d,H2 d=none->D.nx σ (aC (aC H2 d (.xd [(f,y)])) a (xn a (.ref C) (some d)))
theorem Dy(ha:PE X o ta)(hv:PE X value tv)(hs:swapsWith value (some (.Attribute o f pos')) pos.line X.env=pure false):PS X (.Assign [.Attribute o f pos'] value pos) (AB X.K ta tv f):=by
 intro pins s σ H D I h;refine plainObj_wpAny_Assign_Attribute (bU (hv pins s σ H _ I h) λu s1 ⟨y,H1,I1,ry,q⟩=>bU (ha pins s1 σ H1 _ I1 q) λov s2 ⟨x,H2,I2,rx,a,C,ex,ea,c,q2⟩=>?_) hs;subst ex;obtain rfl:ov=Value.ref a:=rx;obtain⟨⟨ob,ws,e1,e2,e3,e4,e5⟩,_,_⟩:=(show bN X.prog X.w H2 s2.heap a (xn a (.ref C) none) from I2.hok a _ ea);refine PySem.W.set_new I2.kIn c e1 e2 e3 e4 λh' t' hk hx hn=>?_;have hfr:H2 s2.heap.objs.size=none:=I2.hok.fresh (J8 _);have hne:s2.heap.objs.size≠a:=Nat.ne_of_gt (J' e1);have oa:(h'.update a λ_=>ob).get? a=some ob:=JV _ hx (Obj.isFreed_of_fields e4);have oo:∀b,b≠a->(h'.update a λ_=>ob).get? b=h'.get? b:=λb hb=>JQ _ _ (Ne.symm hb);have I3:Inv X pins σ (aC H2 s2.heap.objs.size (.xd [(f,y)])) {s2 with heap:=h'.update a λ_=>ob,toks:=t' }:=I2.laid (λb u z=>by
   by_cases hb:b=a
   ·subst hb;rw[e1]at z;cases z;exact oa
   ·rw[oo b hb];exact hk b u hb z) (J8 _) ⟨_,hn.at λo z=>(oo _ hne).trans z,λg=>?_⟩
 ·have I4:=I3.write (x:=a) (e:=a) (o:=xn a (.ref C) (some s2.heap.objs.size)) (h':=h') (t':=t') (by rw[ai (Ne.symm hne),ea];exact True.intro) (.inl rfl) (λb u hb z=>by rw[<- oo b hb];exact z) ⟨_,hx⟩ ⟨⟨_,ws,hx,e2,rfl,e4,e5⟩,⟨_,hx⟩,pO⟩
  exact⟨σ,_,I4,q2 _ hfr⟩
 ·show gO (List.lookup g [(f,y)]) (if g=f then some u else none)
  by_cases z:g=f
  ·have hb:(g==f)=true:=beq_iff_eq.mpr z
   simp only[List.lookup,hb,if_pos z];exact ry
  ·have hb:(g==f)=false:=beq_eq_false_iff_ne.mpr z
   simp only[List.lookup,hb,if_neg z];exact True.intro
end
def mK(C:Addr)(fn:Str):Sp:=λvs H Q _=>∃a v,vs=[.ref a,v]/\H a=some (xn a (.ref C) none)/\∀d,H d=none->Q .non (aC (aC H d (.xd [(fn,v)])) a (xn a (.ref C) (some d)))
def rB(H:Hp)(e:Addr):Hp:=λb=>if b=e then none else H b
theorem eJ{H:Hp}{e b:Addr}(h:b≠e):rB H e b=H b:=by unfold rB;rw[if_neg h]
theorem iT{H:Hp}{e:Addr}:rB H e e=none:=by unfold rB;rw[if_pos rfl]
def BQ(X:Cx)(E:XK):Prop:=∀(pins:KH) (σ:St) (H2:Hp) (s2:KJ) (hm:Heap) (H3:Hp) (s3:KJ) (e C:Addr) (od:KU),Inv X pins σ H2 s2->Inv X pins σ H3 s3->s2.heap.get? e=none ->
 (∀b o,s2.heap.get? b=some o->hm.get? b=some o)->Un (lK X.stack) [] (aC H2 e (xn e (.ref C) none)) H3 hm s3.heap->s3.os=s2.os->H3 e=some (xn e (.ref C) od)->E (.ref C) od (rB H3 e)->X.xe (.ref e) s3
section
variable {P:KP}{w:KS}{K:KG}{mg:KN}{base:Heap}{N:KQ}{qual:Str}{scope:Scope}{f:Addr}{cd:Value}{A:KR}{outer:List Env}{s:KJ}{H:Hp}{E E1:XK}
theorem gl(hE:∀c d H',E1 c d H'->E c d H'):BQ (eZ (dz P w) P w K mg base N qual scope f cd A outer s H E) E1:=by
 intro pins σ H2 s2 hm H3 s3 e C od I2 I3 new keep un os3 he3 q;obtain⟨⟨oe,vs,g1,g2,g3,g4,g5⟩,_,_⟩:=(show bN P w H3 s3.heap e (xn e (.ref C) od) from I3.hok e _ he3);have ne:∀b o,s2.heap.get? b=some o->b≠e:=λb o z y=>by rw[y,new]at z;cases z
 have h2e:H2 e=none:=by
  cases z:H2 e with
  |none=>rfl
  |some o=>
   obtain⟨ob,hob⟩:=(I2.hok e o z).there;rw[new]at hob;cases hob
 have hin:∀env∈(eZ (dz P w) P w K mg base N qual scope f cd A outer s H E).stack,∀b,env.frame=some b->b∈e::lK (eZ (dz P w) P w K mg base N qual scope f cd A outer s H E).stack:=λenv he b hb=>.tail _ (List.mem_filterMap.mpr ⟨env,he,hb⟩);have hff:=PySem.W.funFrames_hide I3.stack hin;have u0:∀b,b≠e->H2 b=none->aC H2 e (xn e (.ref C) none) b=none:=λb hb n=>by rw[ai hb];exact n
 have fly0:Fly0 P w (eZ (dz P w) P w K mg base N qual scope f cd A outer s H E).stack H2 s2 (PySem.W.hideAll s3.heap (e::lK (eZ (dz P w) P w K mg base N qual scope f cd A outer s H E).stack)) (rB H3 e) s3:=by
  refine⟨λb o z=>PySem.W.of_hideAll _ z,hff,⟨λb o z n hb _=>un.keep b o (keep b o z) (u0 b (ne b o z) n) hb (by simp),λb o z n hb _=>un.slot b o (keep b o z) (u0 b (ne b o z) n) hb (by simp),λb o z n _=>?_,λb o z _=>un.there b o (keep b o z) (by simp),λb xs z=>?_,λb o y z=>?_,λb ps z=>?_⟩,λb o z=>?_,λb o z=>?_,λb o z hb=>?_,os3,I3.bare⟩
  ·rw[eJ (ne b o z)]
   exact un.free b o (keep b o z) (u0 b (ne b o z) n) (by simp)
  ·have hb:b≠e:=av z h2e
   rw[eJ hb];exact un.tups b xs (by rw[ai hb];exact z)
  ·have hb:b≠e:=av z h2e
   rw[eJ hb];exact un.frzs b o y (by rw[ai hb];exact z)
  ·have hb:b≠e:=av z h2e
   rw[eJ hb];exact un.tbls b ps (by rw[ai hb];exact z)
  ·have hb:b≠e:=λy=>by rw[y,iT]at z;cases z
   rw[eJ hb]at z;exact(I3.hok b o z).stay (λ_ _ _ y=>y) (λc y=>by rw[eJ (λx=>by rw[x,he3]at y;cases y)];exact y) λc xs y=>by rw[eJ (λx=>by rw[x,he3]at y;cases y)];exact y
  ·have hb:b≠e:=λy=>by rw[y,iT]at z;cases z
   rw[eJ hb]at z;obtain⟨ob,hob⟩:=(I3.hok b o z).there;refine⟨ob,PySem.W.hideAll_get _ hob λhm=>?_⟩;rcases J0.mp hm with y | y
   ·exact hb y
   ·rw[I3.stkFree b y]at z;cases z
  ·obtain⟨o',z'⟩:=un.there b o (keep b o z) (by simp)
   refine⟨o',PySem.W.hideAll_get _ z' λhm=>?_⟩;rcases J0.mp hm with y | y
   ·exact ne b o z y
   ·exact hb y
 have newB:(PySem.W.hideAll s3.heap (e::lK (eZ (dz P w) P w K mg base N qual scope f cd A outer s H E).stack)).get? e=none:=PySem.W.hideAll_none _ (List.mem_cons_self ..);refine xC (cp:=λv=>v=.none) (s:=s3) I3.ok.frames fly0.ff rfl g1 fly0.st newB g4 g5.1 ⟨_,g5.2.1,rfl⟩ λh' fl2 up=>?_;rw[g2,g3]at fl2;exact⟨e,.ref C,od,_,rB H3 e,rfl,Fly0.up I2 rfl rfl rfl rfl rfl fly0 fl2 up,iT,hE _ _ _ q⟩
end
structure XI(P:KP)(w:KS)(K:KG)(mg:KN)(base:Heap)(k:Nat)(C:Addr)(fn:Str):Prop where
 ex:∃(bm bmN:KL) (newId Bn inN B nid initId:String) (fI:Addr) (fd:KO) (ps:KQ),Av K C bm newId/\ExcBaseFacts Bn newId inN bmN/\bm.contains (.type Bn)=true/\ExcBaseFacts B nid initId bm /\
  PySem.W.findIn K (.ref C) "__init__"=some (some (.ref fI))/\PySem.W.typeIn K (.ref fI)=some (.type "function")/\aR P w K mg base bB k fI fd ps (mK C fn)/\dF K fd ps []
section
variable {X:Cx}{x:Str}{np cpos pos:Pos}{e₀:Expr}{t:TA}{C:Addr}{fn:Str}{k:Nat}{E:XK}
def tm(C:Addr)(fn:Str)(E:XK)(t:TA):TS:=λ_ σ H=>t σ H λvs H1=>vs.length<=sizeLine/\∃v,vs=[v]/\∀d,H1 d=none->E (.ref C) (some d) (aC H1 d (.xd [(fn,v)]))
theorem gc(c:XI X.prog X.w X.K X.mg X.base k C fn)(hr:cw (k+1) X.A)(hc:X.calm=true)(hg:Gl X x)(hm:X.mg x=some (.ref C))(hx:BQ X E)(ha:PA X [e₀] t)
  (hd:autoParam ((x==("__debug__":Str))=false) zz2._auto_1) (he:autoParam (starEach [e₀] X.env=(false,eval e₀ X.env)::starEach [] X.env) zz0._auto_1) (hpl:autoParam ((backTo cpos (starEach [] X.env)).any (·.1)=false) zz0._auto_1) :
  PS X (.Raise (some (.Call (.Name x np) [e₀] [] cpos)) none pos) (tm C fn E t):=by
 obtain⟨bmB,bmN,newId,Bn,inN,B,nid,initId,fI,fd,ps,c1,c2,c3,c4,hi,hf,F,hb⟩:=c.ex;intro pins s σ H D I h;obtain⟨tl,N,nm,q,bs,hdct,sn,sub,ab,col,dd,k0,k1,k2,k3,k5,hC,T,_⟩:=c1.obj I.mod.kin;refine kO (K:=X.K) (fI:=fI) (C:=C) (nm:=nm) (q:=q) (N:=N) (bs:=bs) (bm:=tl) (hdct:=hdct) (sn:=sn) (sub:=sub) (ab:=ab) (col:=col) (dd:=dd) (k0:=k0) (k1:=k1) (k2:=k2) (k3:=k3) (k5:=k5)
  c2 c3 c4 (T.hasType c4.hasBase) (I.ok.hd hc) (by rw[he];show(false||(backTo cpos (starEach [] X.env)).any (·.1))=false;rw[hpl];rfl) hi hf (iP I hg hm ⟨rfl,?_⟩ hd)
 rw[he];have ha':=ha cpos pins s σ H _ I h;rw[he]at ha';refine Calls.evalArgs_plain (wpAny_mono ha' (λus s₂ ⟨vs,H1,I1,r1,z,v,ev,q1⟩=>⟨rfl,by rw[<- r1.length];exact z,I1.bk _ _ hC,I1.kIn,T.keeps I1.bk,λh' e hx'=>?_⟩) λ_ _ y=>y);subst ev;obtain⟨u,rfl,ru⟩:=r1.one;obtain⟨t0,he0,ht0,htt⟩:=hx'.there;have ne:∀b o,s₂.heap.get? b=some o->b≠e:=λb o z y=>by rw[y,hx'.new]at z;cases z
 have h1e:H1 e=none:=by
  cases z:H1 e with
  |none=>rfl
  |some o=>
   obtain⟨ob,hob⟩:=(I1.hok e o z).there;rw[hx'.new]at hob;cases hob
 have Im:Inv X pins σ (aC H1 e (xn e (.ref C) none)) {s₂ with heap:=h' }:=by
  refine I1.call' (s':={s₂ with heap:=h' }) (ch:=[]) rfl ⟨λb o z _ _ _=>hx'.keeps b o z,λb o z _ _ _=>⟨o.slots,hx'.keeps b o z⟩,λb o z n _=>by rw[ai (ne b o z)];exact n,λb o z _=>⟨o,hx'.keeps b o z⟩,λb xs z=>by rw[ai (av z h1e)];exact z,λb o y z=>by rw[ai (av z h1e)];exact z,λb ps z=>⟨#[],by rw[ai (av z h1e),z];simp⟩⟩ (λb o z=>?_) I1.bare (λb z=>absurd z (by simp))
  by_cases hb:b=e
  ·subst hb
   rw[ae]at z;cases z;exact⟨⟨_,_,he0,rfl,rfl,rfl,rfl,rfl,rfl⟩,⟨_,he0⟩,pO⟩
  ·rw[ai hb]at z
   exact(I1.hok b o z).stay (λc u _ y=>hx'.keeps c u y) (λc y=>by rw[ai (av y h1e)];exact y) λc xs y=>by rw[ai (av y h1e)];exact y
 have hsp:mK C fn [.ref e,v] (aC H1 e (xn e (.ref C) none)) (λr H3=>r=.non/\∃d,H3 e=some (xn e (.ref C) (some d))/\E (.ref C) (some d) (rB H3 e)) (λ_ _ _=>False):=by
  refine⟨e,v,rfl,ae,λd hd'=>⟨rfl,d,ae,?_⟩⟩;have hde:d≠e:=λy=>by rw[y,ae]at hd';cases hd'
  rw[ai hde]at hd';have ee:rB (aC (aC (aC H1 e (xn e (.ref C) none)) d (.xd [(fn,v)])) e (xn e (.ref C) (some d))) e=aC H1 d (.xd [(fn,v)]):=by
   funext b
   by_cases hb:b=e
   ·rw[hb,iT,ai (Ne.symm hde)];exact h1e.symm
   ·rw[eJ hb,ai hb]
    by_cases hbd:b=d
    ·rw[hbd,ae,ae]
    ·rw[ai hbd,ai hb,ai hbd]
  rw[ee];exact q1 d hd'
 have hl:([Value.ref e,u]++[]).length=ps.length:=(F.len _ _ _ _ hsp:[V.ref e,v].length=ps.length);have r2:aW [V.ref e,v] [Value.ref e,u]:=.cons rfl (.cons ru .nil);refine wpAny_call (codeAny_mono (F.run _ X.stack _ _ ⟨[.ref e,u],[]⟩ [.ref e,u] _ _ _ (hr.make C [u] []) (Im.env0.make C [u] []) (hb _ [Value.ref e,u] Im.kIn hl) r2 hsp) λr s' hq'=>?_);cases r with
 |error ev=>exact False.elim hq'
 |ok fl=>
  cases fl with
  |ret u'=>
   obtain⟨v',H3,os3,bare3,un3,hok3,rv,ev,d,he3,qE⟩:=hq';subst ev;have I3:=Im.call' (ch:=[]) os3 un3 hok3 bare3 (λb z=>absurd z (by simp));obtain⟨⟨oe,ws,g1,g2,g3,g4,g5⟩,_,_⟩:=(show bN X.prog X.w H3 s'.heap e (xn e (.ref C) (some d)) from I3.hok e _ he3);exact⟨rv,oe,ws,I3.bk _ _ hC,g1,g2,g4,g5.1,hx pins σ H1 s₂ h' H3 s' e C (some d) I1 I3 hx'.new hx'.keeps un3 os3 he3 qE⟩
  |next=>exact False.elim hq'
  |brk=>exact False.elim hq'
  |cont=>exact False.elim hq'
end
end L2
namespace PySem.W
open PySem PySem.Spec PySem.Calls PyProof.Rows
end PySem.W
namespace SpM
open PySem
def glue(c:Nat):List (List Nat)->List Nat
 | []=>[]
 | [p]=>p
 |p::q::r=>p++c::glue c (q::r)
def step(c:Nat)(rows:List (List Nat))(d:Nat):List (List Nat):=if d=c then rows++[[]] else rows.dropLast++[rows.getLastD []++[d]]
def parts(c:Nat)(x:KI):List (List Nat):=x.foldl (step c) [[]]
theorem xv{c:Nat}:∀{p q a b:KI},c∉p->c∉q->p++c::a=q++c::b->p=q/\a=b
 | [],[],a,b,_,_,e=>⟨rfl,by simpa using e⟩
 | [],y::q,a,b,_,hq,e=>by simp at e;exact absurd e.1 (λz=>hq (by simp[z]))
 |x::p,[],a,b,hp,_,e=>by simp at e;exact absurd e.1.symm (λz=>hp (by simp[z]))
 |x::p,y::q,a,b,hp,hq,e=>by
  simp at e;obtain⟨e1,e2⟩:=xv (p:=p) (q:=q) (λz=>hp (by simp[z])) (λz=>hq (by simp[z])) e.2;exact⟨by rw[e.1,e1],e2⟩
theorem glue_inj(c:Nat):∀{rows rows':List (List Nat)},rows≠[]->rows'≠[]->(∀p∈rows,c∉p)->(∀p∈rows',c∉p)->glue c rows=glue c rows'->rows=rows'
 | [p],[q],_,_,_,_,e=>by simpa[glue]using e
 | [p],q::q'::r,_,_,hf,_,e=>by
  have:c∈p:=by rw[show p=q++c::glue c (q'::r) from e];simp
  exact absurd this (hf p (by simp))
 |p::p'::r,[q],_,_,_,hf,e=>by
  have:c∈q:=by rw[show q=p++c::glue c (p'::r) from e.symm];simp
  exact absurd this (hf q (by simp))
 |p::p'::r,q::q'::r',_,_,h1,h2,e=>by
  obtain⟨e1,e2⟩:=xv (h1 p (by simp)) (h2 q (by simp)) (show p++c::glue c (p'::r)=q++c::glue c (q'::r') from e);have:=glue_inj c (rows:=p'::r) (rows':=q'::r') (by simp) (by simp) (λz hz=>h1 z (by simp[hz])) (λz hz=>h2 z (by simp[hz])) e2;rw[e1,this]
theorem join_glue(c:Nat):∀(ys:KQ),(Builtin.Str.glued ⟨#[c]⟩ ys).cps.toList=glue c (ys.map λy=>y.cps.toList)
 | []=>rfl
 |y::ys=>by
  have key:∀(zs:KQ) (a:Array Nat),(zs.foldl (λacc (p:Str)=>acc++(⟨#[c]⟩:Str).cps++p.cps) a).toList=glue c (a.toList::zs.map λy=>y.cps.toList):=by
   intro zs
   induction zs with
   |nil=>intro a;rfl
   |cons z zs ih=>
    intro a;rw[List.foldl_cons,ih];show glue c ((a ++ #[c]++z.cps).toList::_)=a.toList++c::glue c (z.cps.toList::_);have e:(a ++ #[c]++z.cps).toList=a.toList++c::z.cps.toList:=by simp
    rw[e];cases zs with
    |nil=>simp[glue]
    |cons w ws=>simp[glue]
  exact key ys y.cps
end SpM
namespace PyProof.Rows
open PySem PySem.Spec PySem.Builtin PySem.Builtin.Str
end PyProof.Rows
namespace L2
open PySem PySem.Spec PyProof.Rows QL
structure Be(K:KG)(C:Addr)(m:Str)(f:Addr):Prop where
 sp:PySem.W.specialIn K (.ref C) "__getattribute__"=some (some (.builtin "type.__getattribute__"))
 rd:PySem.W.readsIn K C (.type "type")=true
 fi:PySem.W.findCls K (.ref C) (.type "type") m=some (.val (.ref f))
 kp:PySem.W.keepIn K (.ref f)=true
section
variable {X:Cx}{CX:ir}{k:Nat}{f C:Addr}{fd:KO}{ps:KQ}{sp:Sp}{E:XK}{x m:Str}{p pos apos:Pos}{e:Expr}{es:KW}{t:TA}
theorem AL{pl:Sem Bool}(c:Be X.K C m f)(F:aR X.prog X.w X.K X.mg X.base CX k f fd ps sp)(hr:cw k X.A)(hg:Gl X x)(hm:X.mg x=some (.ref C))(hb:dF X.K fd ps [])(hx:cJ CX X E)(ha:PA X (e::es) t)
  (hdb:autoParam ((x==("__debug__":Str))=false) zz2._auto_1) (hst:autoParam (starEach (e::es) X.env=(false,eval e X.env)::starEach es X.env) zz0._auto_1) (hpl:autoParam ((backTo pos (starEach es X.env)).any (·.1)=false) zz0._auto_1)
  (ht:autoParam (eval (.Call (.Attribute (.Name x p) m apos) (e::es) [] pos) X.env=(do
   let ov <- eval (.Name x p) X.env
   standAt apos.atName
   let (f,first) <- holding [ov] (getMethod ov m pl)
   callWith pos f first (backTo pos (starEach (e::es) X.env)) (backToKw pos (keywordEach [] X.env)))) zz0._auto_1) :
  PE X (.Call (.Attribute (.Name x p) m apos) (e::es) [] pos) (l_ sp [] E t):=by
 intro pins s σ H Q I h;refine PySem.W.methodCall_KW (pl:=pl) (iP I hg hm ?_ hdb) ht;refine PySem.W.method_cls I.kIn c.sp (PySem.W.cls_value I.kIn c.rd c.fi rfl ?_);have I1:=I.tok (s.toks+1);refine PySem.W.callWith_K (first:=[]) (h₀:=X.base) I.ok.mod.kin c.kp (bU (ha pos pins _ σ H _ I1 h) λus s2 ⟨vs,H2,I2,r,q2⟩=>⟨I2.kIn,?_⟩) hst hpl;exact lD F hr hb .nil hx I2 r q2
end
section
variable (P:KP)(w:KS)(K:KG)(mg:KN)(base:Heap)(CX:ir)
structure yz(k:Nat)(x m:Str)(ps:KQ)(sp:Sp):Prop where
 ex:∃(C f:Addr) (fd:KO),aR P w K mg base CX k f fd ps sp/\mg x=some (.ref C)/\Be K C m f/\dF K fd ps []
structure lI(k:Nat)(x:Str)(C:Addr)(ps:KQ)(sp:Sp):Prop where
 ex:∃(f:Addr) (fd:KO),aR P w K mg base CX k f fd ps sp/\mg x=some (.ref C)/\Mk K C f/\dF K fd ps []
structure ig(k:Nat)(C:Addr)(m:Str)(ps:KQ)(sp:Sp):Prop where
 ex:∃(f:Addr) (fd:KO),aR P w K mg base CX k f fd ps sp/\iQ K C/\ik K C m f/\dF K fd ps []
end
section
variable {X:Cx}{CX:ir}{k:Nat}{C:Addr}{ps:KQ}{sp:Sp}{E:XK}{x m:Str}{p pos apos:Pos}{e o:Expr}{es:KW}{t:TA}{ta:TE}
theorem mX{pl:Sem Bool}(c:yz X.prog X.w X.K X.mg X.base CX k x m ps sp)(hr:cw k X.A)(hg:Gl X x)(hx:cJ CX X E)(ha:PA X (e::es) t)
  (hdb:autoParam ((x==("__debug__":Str))=false) zz2._auto_1) (hst:autoParam (starEach (e::es) X.env=(false,eval e X.env)::starEach es X.env) zz0._auto_1) (hpl:autoParam ((backTo pos (starEach es X.env)).any (·.1)=false) zz0._auto_1)
  (ht:autoParam (eval (.Call (.Attribute (.Name x p) m apos) (e::es) [] pos) X.env=(do
   let ov <- eval (.Name x p) X.env
   standAt apos.atName
   let (f,first) <- holding [ov] (getMethod ov m pl)
   callWith pos f first (backTo pos (starEach (e::es) X.env)) (backToKw pos (keywordEach [] X.env)))) zz0._auto_1) :
  PE X (.Call (.Attribute (.Name x p) m apos) (e::es) [] pos) (l_ sp [] E t):=by
 obtain⟨C,f,fd,F,hm,cf,hb⟩:=c.ex;exact AL cf F hr hg hm hb hx ha hdb hst hpl ht
theorem i5(c:lI X.prog X.w X.K X.mg X.base CX k x C ps sp)(hr:cw (k+1) X.A)(hg:Gl X x)(hx:cJ CX X E)(ha:PA X (e::es) t)
  (hdb:autoParam ((x==("__debug__":Str))=false) zz2._auto_1) (hst:autoParam (starEach (e::es) X.env=(false,eval e X.env)::starEach es X.env) zz0._auto_1) (hpl:autoParam ((backTo pos (starEach es X.env)).any (·.1)=false) zz0._auto_1) :
  PE X (.Call (.Name x p) (e::es) [] pos) (xH C sp [] E t):=by
 obtain⟨f,fd,F,hm,M,hb⟩:=c.ex;exact Cp M F hr hg hm hb .nil hx ha hdb hst hpl
theorem mL{pl:Sem Bool}(c:ig X.prog X.w X.K X.mg X.base CX k C m ps sp)(hr:cw k X.A)(hx:cJ CX X E)(he:PE X o ta)(ha:PA X (e::es) t)
  (hst:autoParam (starEach (e::es) X.env=(false,eval e X.env)::starEach es X.env) zz0._auto_1) (hpl:autoParam ((backTo pos (starEach es X.env)).any (·.1)=false) zz0._auto_1)
  (ht:autoParam (eval (.Call (.Attribute o m apos) (e::es) [] pos) X.env=(do
   let ov <- eval o X.env
   standAt apos.atName
   let (f,first) <- holding [ov] (getMethod ov m pl)
   callWith pos f first (backTo pos (starEach (e::es) X.env)) (backToKw pos (keywordEach [] X.env)))) zz0._auto_1) :
  PE X (.Call (.Attribute o m apos) (e::es) [] pos) (qN C m sp [] E ta t):=by
 obtain⟨f,fd,F,cl,hm,hb⟩:=c.ex;exact Co he cl hm F hr hb .nil hx ha hst hpl ht
theorem nh{pl:Sem Bool}(c:ig X.prog X.w X.K X.mg X.base CX k C m ps sp)(hr:cw k X.A)(hx:cJ CX X E)(he:PE X o ta)
  (ht:autoParam (eval (.Call (.Attribute o m apos) [] [] pos) X.env=(do
   let ov <- eval o X.env
   standAt apos.atName
   let (f,first) <- holding [ov] (getMethod ov m pl)
   callWith pos f first (backTo pos (starEach [] X.env)) (backToKw pos (keywordEach [] X.env)))) zz0._auto_1) :
  PE X (.Call (.Attribute o m apos) [] [] pos) (qN C m sp [] E ta pH):=by
 obtain⟨f,fd,F,cl,hm,hb⟩:=c.ex;exact BJ he cl hm F hr hb .nil hx ht
end
section
variable {g:TG}{ti:TT}{te:TE}{σ:St}{H:Hp}{Q:List V->Hp->Prop}
theorem Bo{x:Str}(Pv:Nat->List V->St->Hp->Prop)(h0:Pv 0 [] σ H)(hz:∀i acc σ H,Pv i acc σ H->acc.length<sizeLine)(hi:∀i acc σ H,Pv i acc σ H->i<=x.cps.size)
  (hs:∀i c acc σ H,x.cps[i]?=some c->Pv i acc σ H->g (.str ⟨#[c]⟩) σ H λσ2 H3=>ti σ2 H3 λb H4=>if b=true then te σ2 H4 λv H5=>Pv (i+1) (acc++[v]) σ2 H5 else Pv (i+1) acc σ2 H4)
  (he:∀acc σ H,Pv x.cps.size acc σ H->Q acc H):g_ (Fg x) g ti te σ H Q:=by
 exact j9 (J:=Fg x) (g:=g) (ti:=ti) (te:=te) (Q:=Q) (n:=x.cps.size) Pv h0 hz hi (λacc σ H w=>J8 _) (λi acc σ H hlt w=>hlt)
  (λi v acc σ H H2 hlt w y=>by obtain⟨rfl,c,hc,rfl⟩:=y;exact hs i c acc σ H2 hc w) he
end
section
variable (P:KP)(w:KS)(K:KG)(mg:KN)(base:Heap)(CX:ir)
structure v6(k:Nat)(m:Str)(os:List (Addr×Sp)):Prop where
 ex:∀o∈os,∃ps,ig P w K mg base CX k o.1 m ps o.2
end
def tO(m:Str)(os:List (Addr×Sp))(E:XK)(ta:TE)(t:TA):TE:=λσ H Q=>ta σ H λx H1=>∃o∈os,∃a dx fs,x=.ref a/\H1 a=some (.ins o.1 dx fs)/\fs.lookup m=none /\
 t σ H1 λvs H2=>o.2 (x::(vs++[])) H2 Q E
section
variable {X:Cx}{CX:ir}{k:Nat}{os:List (Addr×Sp)}{E:XK}{m:Str}{pos apos:Pos}{e o:Expr}{es:KW}{t:TA}{ta:TE}
theorem Dp{pl:Sem Bool}(c:v6 X.prog X.w X.K X.mg X.base CX k m os)(hr:cw k X.A)(hx:cJ CX X E)(he:PE X o ta)(ha:PA X (e::es) t)
  (hst:autoParam (starEach (e::es) X.env=(false,eval e X.env)::starEach es X.env) zz0._auto_1) (hpl:autoParam ((backTo pos (starEach es X.env)).any (·.1)=false) zz0._auto_1)
  (ht:autoParam (eval (.Call (.Attribute o m apos) (e::es) [] pos) X.env=(do
   let ov <- eval o X.env
   standAt apos.atName
   let (f,first) <- holding [ov] (getMethod ov m pl)
   callWith pos f first (backTo pos (starEach (e::es) X.env)) (backToKw pos (keywordEach [] X.env)))) zz0._auto_1) :
  PE X (.Call (.Attribute o m apos) (e::es) [] pos) (tO m os E ta t):=by
 intro pins s σ H Q I h;refine PySem.W.methodCall_KW (pl:=pl) (bU (he pins s σ H _ I h) λu s1 ⟨x,H1,I1,rx,oc,ho,a,dx,fs,ex,ea,l,q⟩=>?_) ht;subst ex;obtain rfl:u=Value.ref a:=rx;obtain⟨ps,cm⟩:=c.ex oc ho;obtain⟨f,fd,F,cl,hm,hb⟩:=cm.ex;refine ft I1 ea cl hm l ?_;refine PySem.W.callWith_K (first:=[.ref a]) (h₀:=X.base) I.ok.mod.kin hm.kp (bU (ha pos pins s1 σ H1 _ I1 q) λus s2 ⟨vs,H2,I2,r,q2⟩=>⟨I2.kIn,?_⟩) hst hpl;exact lD (us:=.ref a::us) (vs:=.ref a::vs) F hr hb .nil hx I2 (.cons rfl r) q2
theorem AC{pl:Sem Bool}(c:v6 X.prog X.w X.K X.mg X.base CX k m os)(hr:cw k X.A)(hx:cJ CX X E)(he:PE X o ta)
  (ht:autoParam (eval (.Call (.Attribute o m apos) [] [] pos) X.env=(do
   let ov <- eval o X.env
   standAt apos.atName
   let (f,first) <- holding [ov] (getMethod ov m pl)
   callWith pos f first (backTo pos (starEach [] X.env)) (backToKw pos (keywordEach [] X.env)))) zz0._auto_1) :
  PE X (.Call (.Attribute o m apos) [] [] pos) (tO m os E ta pH):=by
 intro pins s σ H Q I h;refine PySem.W.methodCall_KW (pl:=pl) (bU (he pins s σ H _ I h) λu s1 ⟨x,H1,I1,rx,oc,ho,a,dx,fs,ex,ea,l,q⟩=>?_) ht;subst ex;obtain rfl:u=Value.ref a:=rx;obtain⟨ps,cm⟩:=c.ex oc ho;obtain⟨f,fd,F,cl,hm,hb⟩:=cm.ex;refine ft I1 ea cl hm l ?_;exact PySem.W.callWith_K0 (first:=[.ref a]) I1.kIn hm.kp (lD (us:=[.ref a]) (vs:=[.ref a]) F hr hb .nil hx I1 (.cons rfl .nil) q)
end
structure jc(K:KG)(C:Addr):Prop where
 cl:iQ K C
 ha:PySem.W.findIn K (.ref C) "__class__"=some (some (.builtin "object.__class__"))
 hn:PySem.W.specialIn K (.builtin "object.__class__") "__get__"=some (some (.builtin "getset_descriptor.__get__"))
 htk:PySem.W.takesIn K (.builtin "object.__class__")=some true
 hm:PySem.W.mroIn K C (.type "object")=some true
theorem jc.ty{K:KG}{C a dx:Addr}{H:Hp}{fs:List (Str×V)}(i:jc K C)(e:H a=some (.ins C dx fs)):i' K H (.ref a) (.ref C):=.ins e i.cl i.ha i.hn i.htk i.hm
section
variable {X:Cx}{es:KW}{t:TA}
theorem b5{x j p}(hr:PA X es t):PA X (.Constant (.str x) j p::es) (mf (tC (.str x)) t):=ac n0 hr rfl
theorem bA{x j p}(hr:PA X es t):PA X (.Constant (.int x) j p::es) (mf (tC (.int x)) t):=ac am hr rfl
end
end L2
namespace PyProof.Rows
open PySem PySem.Spec PySem.Builtin PySem.Builtin.Str
end PyProof.Rows
namespace L2
open PySem PySem.Spec PyProof.Rows QL
theorem xi:∀(xs:List V) (us:KL),xs.length=us.length->(∀(j:Nat) (x:V) (u:Value),xs[j]?=some x->us[j]?=some u->bf x u)->aW xs us
 | [],[],_,_=>.nil
 |x::xs,u::us,hl,h=>.cons (h 0 x u rfl rfl) (xi xs us (by simpa using hl) λj y v e1 e2=>h (j+1) y v (by simpa using e1) (by simpa using e2))
section
variable {X:Cx}{pins:KH}{σ:St}{H:Hp}{s:KJ}{a:Addr}{kvs:List (cC×V)}{k:cC}{u r:Value}{d:V}{A:KR}{E:KF}
theorem zP{Q:KF}(I:Inv X pins σ H s)(e:H a=some (.dK kvs))(ry:bf (kV k) u)(rd:bf d r)(hl:kvs.length<sizeLine)
  (h1:∀v w' s',cQ kvs k=some v->Inv X pins σ H s'->bf v w'->Q w' s') (h2:cQ kvs k=none->∀s',Inv X pins σ (aC H a (.dK (di kvs k d))) s'->Q r s') :
  wpAny (model X.prog X.w) A (call (.builtin "dict.setdefault") [.ref a,u,r]) Q E s:=by
 obtain⟨z,hd,vs,rel,dd⟩:=ql I.hok e;have hz:vs.length<=sizeLine:=by rw[<- rel.length];exact z
 have hl':(di kvs k d).length<=sizeLine:=by have:=fP kvs k d;omega
 refine call_meetsIn PySem.F.slot_dict_setdefault dd.typeIs PySem.F.entry_dict_setdefault (PySem.F.args_dict_setdefault_3 _ _ _) (kt_meets_setdefault (bM X.prog X.w) a (l9 ry) hd r) ⟨vs,dd,hz,λv hv=>?_,λhn h' dd' hs=>?_⟩
 ·have q:=rel.val k
  rw[hv]at q;cases hvv:cQ kvs k with
  |none=>rw[hvv]at q;exact False.elim q
  |some v0=>rw[hvv]at q;exact h1 v0 v _ hvv (I.tok _) q
 ·have q:=rel.val k
  rw[hn]at q;have hvv:cQ kvs k=none:=by
   cases hvv:cQ kvs k with
   |none=>rfl
   |some v0=>rw[hvv]at q;exact False.elim q
  have he:∃q,h'.get? a=some q:=let ⟨q,_,_,hq,_⟩:=dd';⟨q,hq⟩
  exact h2 hvv _ (mP I (by rw[e];exact True.intro) hs he (wz hl' hd (rel.put k rd) dd'))
end
def uX(td ty tx:TE):TE:=λσ H Q=>td σ H λx H1=>∃a,x=.ref a/\Gc H1 a/\ty σ H1 λy H2=>tx σ H2 λz H3=>∃kvs k,H3 a=some (.dK kvs)/\y=kV k/\kvs.length<sizeLine /\
 (∀v,cQ kvs k=some v->Q v H3)/\(cQ kvs k=none->Q z (aC H3 a (.dK (di kvs k z))))
section
variable {X:Cx}{o e f:Expr}{apos cpos:Pos}{td ty tx:TE}
theorem nQ(ho:PE X o td)(he:PE X e ty)(hf:PE X f tx)(m:M2 X o "setdefault" apos e f cpos):PE X (.Call (.Attribute o "setdefault" apos) [e,f] [] cpos) (uX td ty tx):=by
 intro pins s σ H Q I h;refine wpAny_Call_method m.base m.few m.line PySem.F.plainAttrs_dict PySem.F.slot_dict_setdefault PySem.F.type_dict_setdefault (bU (ho pins s σ H _ I h) λu s1 ⟨x,H1,I1,rx,a,ex,d,q1⟩=>?_);subst ex;obtain rfl:u=Value.ref a:=rx;obtain⟨t1,t2,_⟩:=wG I1 d;refine⟨t1,t2,?_⟩;rw[m.trees];refine Calls.callWith_builtin rfl (Calls.evalArgs_plain (Calls.spliced_cons (bU (he pins s1 σ H1 _ I1 q1) λiv s2 ⟨y,H2,I2,ry,q2⟩=>
  Calls.spliced_cons (bU (hf pins s2 σ H2 _ I2 q2) λfv s3 ⟨z,H3,I3,rz,kvs,k,hH,ey,hlen,g1,g2⟩=>Calls.spliced_nil ?_))))
 subst ey;exact zP I3 hH ry rz hlen (λv w' s4 hv I4 rv=>⟨v,H3,I4,rv,g1 v hv⟩) λhn s4 I4=>⟨z,_,I4,rz,g2 hn⟩
end
theorem FC{P:KP}{w:KS}{k:cC}{u:Value}(h:(bM P w).is k u=true):bf (kV k) u:=by
 rcases bV (show nA k u=true from h) with⟨i,t,rfl,rfl⟩ | ⟨x,t,rfl,rfl⟩<;>exact⟨_,rfl⟩
section
variable {X:Cx}
def wy:List V->Hp->VK->Prop:=λxs H Q=>∃a kvs,xs=[.ref a]/\H a=some (.dK kvs)/\∀l,H l=none->Q (.ref l) (aC H l (.lst (kvs.map λkv=>kV kv.1)))
theorem v9(hc:X.calm=true):g8 X (.type "list") wy:=by
 intro pins s σ H xs us Q I r h;obtain⟨a,kvs,rfl,e,q⟩:=h;obtain⟨u,rfl,ru⟩:=vf r;obtain rfl:u=Value.ref a:=ru;obtain⟨z,hd,vs,rel,dd⟩:=ql I.hok e;obtain⟨ep,da⟩:=dd.dictAt;have hz:vs.length<=sizeLine:=by rw[<- rel.length];exact z
 refine PySem.W.kdl_call (PySem.W.kdl_dict hd) (I.ok.hd hc) da hz λh' tk acc' c' hk hS hacc=>?_;have hv:aW (kvs.map λkv=>kV kv.1) acc'.toList:=by
  refine xi _ _ (by rw[JM];simp[hacc.1,rel.length]) λj x u e1 e2=>?_;obtain⟨k,w,hc2,hi⟩:=hacc.2 j u (by simpa using e2);have hm:(kvs.map λkv=>kV kv.1)=(vs.map (·.1)).map kV:=by rw[<- rel.keys,JZ];rfl
  rw[hm,JO,JO,hc2]at e1;cases e1;exact FC hi
 exact⟨.ref s.heap.objs.size,aC H s.heap.objs.size (.lst (kvs.map λkv=>kV kv.1)),I.laid (t':=tk) hk (J8 _) ⟨by rw[JM];exact z,acc'.toList,c',hv,by simpa using hS⟩,rfl,q _ (I.hok.fresh (J8 _))⟩
end
section
variable {K:Type}[DecidableEq K]
def fz(σ:List K)(v:K):List K:=if v∈σ then σ else σ++[v]
def met(l:List K):List K:=l.foldl fz []
theorem ut(σ:List K)(v k:K):decide (k∈fz σ v)=(decide (k∈σ)||decide (k=v)):=by
 unfold fz
 by_cases h:v∈σ
 ·rw[if_pos h]
  by_cases e:k=v
  ·subst e;simp[h]
  ·simp[e]
 ·rw[if_neg h]
  simp[JY]
theorem lX(σ:List K)(v:K):(fz σ v).length=if decide (v∈σ) then σ.length else σ.length+1:=by
 unfold fz
 by_cases h:v∈σ<;>simp[h]
theorem uS(l:List K)(v:K):met (l++[v])=fz (met l) v:=by unfold met;rw[List.foldl_append];rfl
theorem xu:∀(l σ:List K),(l.foldl fz σ).length<=σ.length+l.length
 | [],σ=>J8 _
 |v::l,σ=>by
  have h:=xu l (fz σ v);have e:=lX σ v;rw[List.foldl_cons,JW]
  split at e<;>omega
theorem Bs(n:Nat)(l:List K)(h:l.length=n):(met l).length<=n:=by
 have:=xu l [];rw[<- h];unfold met;simpa using this
end
section
variable {prog:KP}{w:KS}{K:Type}[DecidableEq K]{knd:KeyKind prog w K}{A:KR}{R:Result->Shared->Prop}{I:Addr}{fp wr:KM}{G:Array GenState->Array GenState->Prop}{n:Nat}{P:Nat->Value->Prop}{St:Nat->Shared->Prop}
theorem C6(W:WalksS prog w A.in1 I fp wr G n P St)(S:Addr)(hSf:S∉fp)(l:List K)(hl:l.length=n)
  (hval:∀i v,P i v->∃k,l[i]?=some k/\knd.is k v=true/\v.scannable=true) (hb:n+1<scanBound) :
  ∀(k i:Nat) (s:KJ),n-i=k->i<=n->St i s ->
   s.heap.SetOf knd S (λk'=>decide (k'∈met (l.take i))) (met (l.take i)).length ->
   (∀s',Moved (S::wr) G s s'->s'.heap.SetOf knd S (λk'=>decide (k'∈met l)) (met l).length->R (.ok (.ret .none)) s') ->
   codeAny (model prog w) A (.builtin "set.update.loop" ⟨[.ref S,.ref I],[]⟩) R s:=by
 have hSw:S∉wr:=λh=>hSf (W.sub _ h);have hsub:∀b∈wr,b∈S::wr:=λb hb=>J1 _ hb;intro k
 induction k with
 |zero=>
  intro i s hk hi hst hS hR;have hin:i=n:=by omega
  subst hin;rw[<- hl,Kj]at hS;refine codeAny_builtin F.entry_set_update_loop ?_;rw[Around.under_plainId F.plain_set_update_loop _];show wpAny _ A.in1 (pyNext (.ref I) >>= _) _ _ s;refine wpAny_bind (W.done s _ _ hst λs' hm=>?_);show wpAny _ A.in1 (ret Value.none) _ _ s';refine wpAny_pure (hR s' (hm.mono hsub) ?_);obtain⟨o,es,ep,t,ho,aY⟩:=hS;exact⟨o,es,ep,t,hm.heap S _ hSw ho,aY⟩
 |succ k ih=>
  intro i s hk hi hst hS hR;have hlt:i<n:=by omega
  refine codeAny_builtin F.entry_set_update_loop ?_;rw[Around.under_plainId F.plain_set_update_loop _];show wpAny _ A.in1 (pyNext (.ref I) >>= _) _ _ s;refine wpAny_bind (W.item i s _ _ hlt hst λv s' hP hst' hm=>?_);obtain⟨key,hkey,his,hsc⟩:=hval i v hP;have hS':s'.heap.SetOf knd S (λk'=>decide (k'∈met (l.take i))) (met (l.take i)).length:=by
   obtain⟨o,es,ep,tb,ho,aY⟩:=hS;exact⟨o,es,ep,tb,hm.heap S _ hSw ho,aY⟩
  show wpAny _ A.in1 (holding [v] (setAdd S v) >>= _) _ _ s';refine wpAny_bind (wpAny_holding ?_);unfold setAdd;refine wpAny_holding ?_;refine wpAny_bind (knd.pyHash (k:=key) his ?_);have hroom:(met (l.take i)).length+1<scanBound:=by have:=Bs i (l.take i) (by rw[Kk];omega);omega
  refine wpAny_setAddHashed_of (knd:=knd) (s:={s' with toks:=s'.toks+1}) his hsc hS' hroom λh' hsb hS2=>?_;have ht:l.take (i+1)=l.take i++[key]:=by rw[List.take_add_one,hkey];rfl
  have hSi:h'.SetOf knd S (λk'=>decide (k'∈met (l.take (i+1)))) (met (l.take (i+1))).length:=
   SetOf_congr hS2 (λk'=>by rw[ht,uS,ut]) (by rw[ht,uS,lX])
  refine wpAny_pure ⟨plainId_quiet F.plain_set_update_loop _,ih (i+1) _ ⋯ hlt (W.frame _ s' _ _ hst' (Nat.le_succ _) λb hb o e=>?_) hSi λs'' hm'' hS''=>?_⟩
  ·rw[hsb.2 b (λh:b=S=>hSf (by rw[<- h];exact hb))];exact e
  ·refine hR s'' (Moved.trans W.gtrans ((hm.mono hsub).then_heap (Nat.le_succ _) λb o hb e=>?_) hm'') hS''
   rw[hsb.2 b (λh:b=S=>hb (by rw[h];exact List.mem_cons_self))];exact e
end
def c7(z:Str):List Str:=z.cps.toList.map λc=>(⟨#[c]⟩:Str)
section
variable {prog:KP}{w:KS}{A:KR}{E:KF}{s:KJ}
def Ae(s:KJ)(led:Bool):Shared:={s with heap:=s.heap.push {cls:=.type "set",dict:=none,data:=.set #[] 0 (.fresh 0 0 led)} }
set_option maxHeartbeats 3200000 in
theorem tN{v:Value}{R:Heap->Nat->Prop}{Q:KF}
  (hi:∀led,(Ae s led).TypeIs (.ref s.heap.objs.size) "set"->codeAny (model prog w) A.in1 (.call (.builtin "set.__init__") {pos:=[.ref s.heap.objs.size,v]})
   (wants (λr s₂=>r=.none/\∃h' tk,s₂={s with heap:=h',toks:=tk}/\R h' tk) E) (Ae s led))
  (h:∀(h':Heap) (tk:Nat),R h' tk->Q (.ref s.heap.objs.size) {s with heap:=h',toks:=tk}) :
  wpAny (model prog w) A (call (.type "set") [v]) Q E s:=by
 obtain⟨c,tl,hmro⟩:=PySem.F.called_set.mro;have hmade:=PySem.F.called_set.made;have hsub:=PySem.F.called_set.sub;refine wpAny_call (codeAny_of_tree ?_);show wpAny _ _ (callAny (.type "set") _) _ _ _;refine wpAny_pure ⟨Code.quiet_builtin _ (by decide +kernel),codeAny_builtin PySem.F.entry_type_call ?_⟩;rw[Around.under_plain (weight_type_call_type "set" [v] []) rfl];have h1:=PySem.F.called_set.notType;have h2:=PySem.F.called_set.canCreate;have hct:=PySem.F.typeCall_set_1 v
 repeat (any_goals (first | with_reducible assumption | with_reducible refine wpAny_pure ?_ | with_reducible refine wpAny_bind ?_ | with_reducible refine wpAny_holding ?_ | with_reducible refine wpAny_of_eq (by assumption) ?_ | with_reducible refine wpAny_isInstance (by assumption) (by assumption) ?_ | with_reducible refine wpAny_specialOf (by assumption) (by assumption) ?_ | with_reducible refine wpAny_call ?_ | ((with_reducible apply wpAny_ite_false);focus (rfl;done)) | wp_delta))
 refine codeAny_mono (code_set_new_1 v (E:=E) (Q₁:=λobj s₁=>∃led:Bool,obj=.ref s.heap.objs.size/\s₁=Ae s led) λled=>⟨led,rfl,rfl⟩) λr s₁ hr=>?_;cases r with
 |error e=>exact hr
 |ok fl=>
  cases fl with
  |ret obj=>
   obtain⟨led,rfl,rfl⟩:=hr;have hT:(Ae s led).TypeIs (.ref s.heap.objs.size) "set":=⟨_,JR _ rfl,rfl⟩;have hli:=PySem.F.called_set.init.lookup;have hbi:=PySem.F.called_set.init.bind (.ref s.heap.objs.size)
   repeat (any_goals (first | with_reducible assumption | with_reducible refine wpAny_pure ?_ | with_reducible refine wpAny_bind ?_ | with_reducible refine wpAny_holding ?_ | with_reducible refine wpAny_of_eq (by assumption) ?_ | with_reducible refine wpAny_isInstance (by assumption) (by assumption) ?_ | with_reducible refine wpAny_specialOf (by assumption) (by assumption) ?_ | with_reducible refine wpAny_call ?_ | ((with_reducible apply wpAny_ite_false);focus (rfl;done)) | wp_delta))
   refine codeAny_mono (hi led hT) λr₂ s₂ hr₂=>?_;cases r₂ with
   |error e=>exact hr₂
   |ok fl₂=>
    cases fl₂ with
    |ret r=>
     obtain⟨rfl,h',tk,rfl,hR⟩:=hr₂
     repeat (any_goals (first | with_reducible assumption | with_reducible refine wpAny_pure ?_ | with_reducible refine wpAny_bind ?_ | with_reducible refine wpAny_holding ?_ | with_reducible refine wpAny_of_eq (by assumption) ?_ | with_reducible refine wpAny_isInstance (by assumption) (by assumption) ?_ | with_reducible refine wpAny_specialOf (by assumption) (by assumption) ?_ | with_reducible refine wpAny_call ?_ | ((with_reducible apply wpAny_ite_false);focus (rfl;done)) | wp_delta))
     exact h _ _ hR
    |_=>exact hr₂.elim
  |_=>exact hr.elim
theorem pj{x:Str}{t:Tok}{Q:KF}(hh:A.handled=none)(hb:x.cps.size+1<scanBound)
  (h:∀(h':Heap) (tk:Nat),h'.SetOf (strKind prog w) s.heap.objs.size (λk'=>decide (k'∈met (c7 x))) (met (c7 x)).length ->
   (∀b o,s.heap.get? b=some o->h'.get? b=some o)->Q (.ref s.heap.objs.size) {s with heap:=h',toks:=tk}) :
  wpAny (model prog w) A (call (.type "set") [.str x t]) Q E s:=by
 refine tN (R:=λh' _=>h'.SetOf (strKind prog w) s.heap.objs.size (λk'=>decide (k'∈met (c7 x))) (met (c7 x)).length/\∀b o,s.heap.get? b=some o->h'.get? b=some o)
  (λled hT=>?_) λh' tk hr=>h h' tk hr.1 hr.2
 refine codeAny_call_builtin PySem.F.called_set.init.plain PySem.F.entry_set_init (check_set_init_1 hT ?_);unfold Ae at hT ⊢;have hS:(s.heap.push {cls:=.type "set",dict:=none,data:=.set #[] 0 (.fresh 0 0 led)}).get? s.heap.objs.size=some {cls:=.type "set",dict:=none,data:=.set #[] 0 (.fresh 0 0 led)}:=JR _ rfl;have hsls:=PySem.F.sub_str_set;have hslf:=PySem.F.sub_str_frozenset;have hne:(Value.type "str" == Value.type "dict")=false:=by decide
 unfold Builtin.«set.__init__» noKeywords Builtin.Frozenset.updateFrom;generalize hPI:pyIter=PI
 wp_walk
 subst hPI;refine wpAny_pyIter_str λo St W hst=>?_;refine wpAny_bind (wpAny_runValue ?_);have hSf:s.heap.objs.size∉[(s.heap.push {cls:=.type "set",dict:=none,data:=.set #[] 0 (.fresh 0 0 led)}).objs.size]:=by
  rw[Heap.size_push];simp only[JN]
  exact J4 (Kf _)
 refine C6 (knd:=strKind prog w) ((W _ (by simp[hh])).toS) s.heap.objs.size hSf (c7 x) (by simp[c7])
  (λi v ⟨c,u,hc,hv⟩=>⟨⟨#[c]⟩,by unfold c7;rw[JO,Array.getElem?_toList,hc];rfl,by rw[hv];exact strKind_is _ _ _ _,by rw[hv];rfl⟩) hb (x.cps.size-0) 0 _ ⋯ (J9 _) hst ?hS0 ?hR
 case hS0=>
  exact SetOf_congr ((setObjOf_fresh (knd:=strKind prog w) led).setOf (JL _ hS) (by unfold scanBound;omega)) (λ_=>rfl) rfl
 case hR=>
  intro s' hm hS';obtain⟨h',g',d',tk',os'⟩:=s';have eg:g'=s.gens:=hm.gens;have ed:d'=s.drawn:=hm.drawn;have eo:os'=s.os:=hm.os;subst eg;subst ed;subst eo
  show wpAny _ _ _ _ _ _;refine wpAny_pure ?_;show wpAny _ _ (ret Value.none) _ _ _;refine wpAny_pure ⟨rfl,h',tk',rfl,hS',λb o' e=>?_⟩;have hb:=J' e;refine hm.heap b o' ?_ (JL _ (JL _ e));simp only[J0,List.not_mem_nil,or_false,not_or,Heap.size_push];exact⟨J4 hb,J4 (Nat.lt_succ_of_lt hb)⟩
end
def re(t:TE):TE:=λσ H Q=>t σ H λx H1=>∃z,x=.str z/\z.cps.size+1<scanBound/\Q (.int (met (c7 z)).length) H1
section
variable {X:Cx}{e:Expr}{t:TE}{p p2 pos pos2:Pos}
theorem yr(hc:X.calm=true)(ha:PE X e t)(g1:Gl X "len")(m1:X.mg "len"=none)(g2:Gl X "set")(m2:X.mg "set"=none)
  (he1:autoParam (starEach [.Call (.Name "set" p2) [e] [] pos2] X.env=[(false,eval (.Call (.Name "set" p2) [e] [] pos2) X.env)]) zz0._auto_1)
  (he2:autoParam (starEach [e] X.env=[(false,eval e X.env)]) zz0._auto_1) :
  PE X (.Call (.Name "len" p) [.Call (.Name "set" p2) [e] [] pos2] [] pos) (re t):=by
 intro pins s σ H Q I h;have hl:bootBuiltins "len"=some (.builtin "len"):=by decide +kernel
 have hs:bootBuiltins "set"=some (.type "set"):=by decide +kernel
 refine wpAny_Call_Name_kw (fg I g1 m1 hl ?_);refine PyProof.Rows.callWith_builtin1 ?_ he1 rfl;rw[he1];show wpAny _ _ (spliced [(false,eval (.Call (.Name "set" p2) [e] [] pos2) X.env)]) _ _ _;refine Calls.spliced_cons ?_;refine wpAny_Call_Name_kw (fg (I.tok _) g2 m2 hs ?_);refine PyProof.Rows.callWith_type1 ?_ he2 rfl;rw[he2];show wpAny _ _ (spliced [(false,eval e X.env)]) _ _ _;refine Calls.spliced_cons (bU (ha pins _ σ H _ (I.tok _) h) λu s1 ⟨x,H1,I1,rx,z,ex,hz,q⟩=>Calls.spliced_nil ?_);subst ex;obtain⟨tk,rfl⟩:=rx;refine pj (I.ok.hd hc) hz λh' tk' hS hk=>Calls.spliced_nil ?_;obtain⟨o,ho,hex,es,ep,tb,hd,_,_,hn,hf⟩:=hS.objOf;have hle:=Bs z.cps.size (c7 z) (by simp[c7]);have hb:z.cps.size<4096:=by unfold scanBound at hz;omega
 refine call_len_set ho hex hd hf (by rw[hn];have:((4096:Nat):Int)<2^63:=nofun;omega) ?_;rw[hn];exact⟨.int _,H1,(I1.kept (t':=_) hk),⟨_,rfl⟩,q⟩
end
abbrev NT:=List (Str×Addr×List Nat)
def vg(t:NT):List (cC×V):=t.map λx=>(Sum.inr x.1,V.ref x.2.1)
def vp(ns:KI):List V:=ns.map fun(n:Nat)=>V.int (n:Int)
structure cS(H:Hp)(p:Addr)(t:NT):Prop where
 dict:H p=some (.dK (vg t))
 list:∀x∈t,H x.2.1=some (.lst (vp x.2.2))
 apart:(t.map (·.2.1)).Nodup
theorem cS.grow{H H':Hp}{p:Addr}{t:NT}(N:cS H p t)(k:∀a o,H a=some o->H' a=some o):cS H' p t:=⟨k _ _ N.dict,λx hx=>k _ _ (N.list x hx),N.apart⟩
theorem v4(z:Str):∀t:NT,cQ (vg t) (.inr z)=(t.find? λx=>decide (x.1=z)).map λx=>V.ref x.2.1
 | []=>rfl
 |x::t=>by
  have ih:=v4 z t;unfold vg at ih ⊢;rw[Kc,List.find?_cons]
  by_cases e:x.1=z
  ·rw[gq (by rw[e])];simp[e]
  ·rw[f_ (λh=>e (Sum.inr.inj h)),ih];simp[e]
theorem cS.new{H:Hp}{p l:Addr}{t:NT}{z:Str}(N:cS H p t)(hl:H l=none)(hz:cQ (vg t) (.inr z)=none) :
  cS (aC (aC H l (.lst [])) p (.dK (di (vg t) (.inr z) (.ref l)))) p (t++[(z,l,[])]):=by
 have hpl:p≠l:=λe=>by have:=N.dict;rw[e,hl]at this;exact nomatch this
 have hx:∀x∈t,x.2.1≠l/\x.2.1≠p:=λx hx=>by
  have q:=N.list x hx
  constructor
  ·intro e;rw[e,hl]at q;exact nomatch q
  ·intro e;rw[e,N.dict]at q;exact nomatch q
 refine⟨?_,λx h=>?_,?_⟩
 ·rw[ae,Bp _ hz];unfold vg;rw[JX];rfl
 ·rcases JY.mp h with h | h
  ·rw[ai (hx x h).2,ai (hx x h).1];exact N.list x h
  ·rw[JN.mp h,ai (Ne.symm hpl),ae];rfl
 ·rw[JX]
  refine List.nodup_append.mpr ⟨N.apart,by simp,λa ha b hb=>?_⟩;obtain⟨x,h1,rfl⟩:=Kt.mp ha;rw[List.map_singleton]at hb;rw[JN.mp hb];exact(hx x h1).1
theorem cS.put{H:Hp}{p:Addr}{t:NT}{i k:Nat}{x:Str×Addr×List Nat}(N:cS H p t)(hi:t[i]?=some x) :
  cS (aC H x.2.1 (.lst (vp (x.2.2++[k])))) p (t.set i (x.1,x.2.1,x.2.2++[k])):=by
 have hm:x∈t:=JP hi;have hp:p≠x.2.1:=λe=>by have:=N.list x hm;rw[<- e,N.dict]at this;exact nomatch this
 have hlt:i<t.length:=(JK.mp hi).1;have hk:vg (t.set i (x.1,x.2.1,x.2.2++[k]))=vg t:=by
  unfold vg;apply List.ext_getElem?;intro j;rw[JO,JO,List.getElem?_set]
  by_cases e:i=j
  ·subst e;rw[if_pos rfl,if_pos hlt,hi];rfl
  ·rw[if_neg e]
 have ha:(t.set i (x.1,x.2.1,x.2.2++[k])).map (·.2.1)=t.map (·.2.1):=by
  apply List.ext_getElem?;intro j;rw[JO,JO,List.getElem?_set]
  by_cases e:i=j
  ·subst e;rw[if_pos rfl,if_pos hlt,hi];rfl
  ·rw[if_neg e]
 refine⟨by rw[ai hp,hk];exact N.dict,λy hy=>?_,by rw[ha];exact N.apart⟩;obtain⟨j,hj⟩:=List.mem_iff_getElem?.mp hy;rw[List.getElem?_set]at hj
 by_cases e:i=j
 ·rw[if_pos e,if_pos hlt]at hj
  cases hj;exact ae
 ·rw[if_neg e]at hj
  have hne:y.2.1≠x.2.1:=by
   intro q;have h1:(t.map (·.2.1))[i]?=some x.2.1:=by rw[JO,hi];rfl
   have h2:(t.map (·.2.1))[j]?=some x.2.1:=by rw[JO,hj];simp[q]
   exact e ((List.getElem?_inj (JK.mp h1).1 N.apart).mp (h1.trans h2.symm))
  rw[ai hne];exact N.list y (JP hj)
def im(t:NT):List (Str×List Nat):=t.map λx=>(x.1,x.2.2)
def bS(m:List (Str×List Nat))(z:Str):List (Str×List Nat):=if z∈m.map (·.1) then m else m++[(z,[])]
theorem AW{t:NT}{z:Str}{v:V}(h:cQ (vg t) (.inr z)=some v):∃(i:Nat) (x:Str×Addr×List Nat),t[i]?=some x/\x.1=z/\v=.ref x.2.1:=by
 rw[v4]at h;cases hf:t.find? (λx=>decide (x.1=z)) with
 |none=>rw[hf]at h;exact nomatch h
 |some x=>
  rw[hf]at h;have hv:V.ref x.2.1=v:=Option.some.inj h;obtain⟨i,hi⟩:=List.mem_iff_getElem?.mp (List.mem_of_find?_eq_some hf);have hz:=List.find?_some hf;exact⟨i,x,hi,of_decide_eq_true hz,hv.symm⟩
theorem xy(t:NT):(im t).map (·.1)=t.map (·.1):=by unfold im;rw[JZ];rfl
theorem Et{t:NT}{z:Str}(h:cQ (vg t) (.inr z)=none):¬ z∈(im t).map (·.1):=by
 intro m;rw[xy]at m;obtain⟨x,hx,e⟩:=Kt.mp m;refine BA h (Kt.mpr ⟨(.inr x.1,.ref x.2.1),Kt.mpr ⟨x,hx,rfl⟩,?_⟩);show(Sum.inr x.1:cC)=Sum.inr z;rw[e]
theorem cS.setdef{H:Hp}{p l:Addr}{t:NT}{z:Str}{Q:VK}(N:cS H p t)(hl:H l=none)(hn:t.length<sizeLine)
  (h:∀(H':Hp) (t':NT) (i:Nat) (x:Str×Addr×List Nat),cS H' p t'->t'[i]?=some x->x.1=z->im t'=bS (im t) z->(∀y∈t',y∈t\/y.2.1=l)->(∀a o,a≠p->H a=some o->H' a=some o)->Q (.ref x.2.1) H') :
  ∃kvs k,aC H l (.lst []) p=some (.dK kvs)/\V.str z=kV k/\kvs.length<sizeLine/\(∀v,cQ kvs k=some v->Q v (aC H l (.lst []))) /\
   (cQ kvs k=none->Q (.ref l) (aC (aC H l (.lst [])) p (.dK (di kvs k (.ref l))))):=by
 have hpl:p≠l:=λe=>by have:=N.dict;rw[e,hl]at this;exact nomatch this
 have gr:∀a o,H a=some o->aC H l (.lst []) a=some o:=λa o e=>by
  rw[ai (λq=>by rw[q,hl]at e;exact nomatch e)];exact e
 refine⟨vg t,.inr z,gr _ _ N.dict,rfl,by unfold vg;rw[JM];exact hn,λv hv=>?_,λhz=>?_⟩
 ·obtain⟨i,x,hi,hx,rfl⟩:=AW hv
  refine h _ t i x (N.grow gr) hi hx ?_ (λy hy=>.inl hy) λa o _ e=>gr a o e;have hm:z∈(im t).map (·.1):=by rw[xy];exact Kt.mpr ⟨x,JP hi,hx⟩
  unfold bS;rw[if_pos hm]
 ·refine h _ (t++[(z,l,[])]) t.length (z,l,[]) (N.new hl hz) (by simp) rfl ?_ (λy hy=>(JY.mp hy).imp id λq=>by rw[JN.mp q]) λa o ha e=>by rw[ai ha];exact gr a o e
  unfold bS;rw[if_neg (Et hz)];unfold im;rw[JX];rfl
theorem Ch{t:NT}{i:Nat}{x:Str×Addr×List Nat}(k:Nat):im (t.set i (x.1,x.2.1,x.2.2++[k]))=(im t).set i (x.1,x.2.2++[k]):=by
 unfold im;rw[List.map_set]
theorem j3{m:List (Str×List Nat)}{z:Str}(h:(m.map (·.1)).Nodup):((bS m z).map (·.1)).Nodup:=by
 unfold bS
 by_cases e:z∈m.map (·.1)
 ·rw[if_pos e];exact h
 ·rw[if_neg e,JX]
  refine List.nodup_append.mpr ⟨h,by simp,λa ha b hb=>?_⟩;rw[List.map_singleton]at hb;rw[JN.mp hb];exact λq=>e ((show a=z from q)▸ha)
theorem qk{X:Cx}{e:Expr}{t:TA}{x:Str}{j:Nat}{p apos cpos:Pos}(ha:PA X [e] t)(hline:(apos.endLine==cpos.line)=true)(hs:starEach [e] X.env=[(false,eval e X.env)]) :
  PE X (.Call (.Attribute (.Constant (.str x) j p) "join" apos) [e] [] cpos) (F8 X.K "str" (wX X.K) (tC (.str x)) t):=
 eC PySem.F.plainAttrs_str PySem.F.slot_str_join PySem.F.type_str_join Cd n0 ha rfl (by rw[hs];rfl) hline hs rfl
end L2
namespace QL
open PySem PySem.Spec PyProof.Rows
theorem B5:bootBuiltins "min"=some (.builtin "min"):=by decide +kernel
end QL
namespace L2
open PySem PySem.Spec PyProof.Rows QL
section
variable {K:KG}{g:TG}{ti:TT}{te:TE}{σ:St}{H:Hp}{Q:List V->Hp->Prop}{α:Type}
theorem mQ{as:List α}{f:α->Option V}{i:Nat}{x:α}(hx:as[i]?=some x):(as.take (i+1)).filterMap f=(as.take i).filterMap f++(f x).toList:=by
 rw[List.take_add_one,hx,List.filterMap_append];show _++List.filterMap f [x]=_;cases h:f x<;>simp[h]
theorem Bf{as:List α}{f:α->Option V}(i:Nat):((as.take i).filterMap f).length<=as.length:=Kd (List.length_filterMap_le _ _) (by rw[Kk];omega)
theorem mY{as:List α}(f:α->V):as.filterMap (λx=>some (f x))=as.map f:=by induction as with | nil=>rfl | cons x xs ih=>simp
theorem oU{a:Addr}{as:List α}{emb:α->V}{f:α->Option V}(S:St->Prop)(h0:S σ)(hl:∀H',aD H H'->aQ K H' a (as.map emb))(hn:as.length<=1000000)
  (hs:∀(i:Nat) x,as[i]?=some x->∀σ H' (N1:V->St->Hp->Prop) (N0:St->Hp->Prop),S σ->aD H H'->(∀v σ2 H2,f x=some v->aD H H2->S σ2->N1 v σ2 H2)->(∀σ2 H2,f x=none->aD H H2->S σ2->N0 σ2 H2) ->
   g (emb x) σ H' λσ2 H3=>ti σ2 H3 λb H4=>if b=true then te σ2 H4 λv H5=>N1 v σ2 H5 else N0 σ2 H4)
  (he:∀H',aD H H'->Q (as.filterMap f) H'):g_ (BB K a) g ti te σ H Q:=by
 refine dJ (xs:=as.map emb) (λi acc σ H'=>aD H H'/\acc=(as.take i).filterMap f/\i<=as.length/\S σ) ⟨λ_ _ e=>e,rfl,J9 _,h0⟩ ?_ ?_ ?_ ?_ ?_
 ·rintro i acc σ H' ⟨_,rfl,_⟩
  have:=Bf (as:=as) (f:=f) i;exact bh ⋯
 ·rintro i acc σ H' ⟨_,_,h,_⟩
  rw[JM];exact h
 ·rintro i acc σ H' ⟨sm,_⟩
  exact hl _ sm
 ·rintro i x acc σ H' hx ⟨sm,rfl,hi,hS⟩
  have hlt:i<as.length:=by have:=(JK.mp hx).1;rwa [JM]at this
  rw[JO,JJ hlt]at hx;cases hx;have hg:as[i]?=some as[i]:=JJ hlt;refine hs i as[i] hg σ H' (λv σ2 H5=>_) (λσ2 H4=>_) hS sm (λv σ2 H2 hf s2 hS2=>⟨s2,?_,hlt,hS2⟩) (λσ2 H2 hf s2 hS2=>⟨s2,?_,hlt,hS2⟩)
  ·rw[mQ hg,hf];rfl
  ·rw[mQ hg,hf];simp
 ·rintro acc σ H' ⟨sm,rfl,_⟩
  have e:(as.take (as.map emb).length).filterMap f=as.filterMap f:=by rw[JM,Kj]
  rw[e];exact he _ sm
theorem v5{a:Addr}{as:List α}{emb:α->V}{f:Nat->α->Option V}(S:St->Prop)(h0:S σ)(hl:∀H',aD H H'->aQ K H' a (as.map emb))(hn:as.length<=1000000)
  (hs:∀(i:Nat) x,as[i]?=some x->∀σ H' T (N1:V->St->Hp->Prop) (N0:St->Hp->Prop),S σ->aD H H'->H' T=none->(∀v σ2 H2,f i x=some v->aD H H2->S σ2->N1 v σ2 H2)->(∀σ2 H2,f i x=none->aD H H2->S σ2->N0 σ2 H2) ->
   g (.ref T) σ (aC H' T (.tup [.int (i:Int),emb x])) λσ2 H3=>ti σ2 H3 λb H4=>if b=true then te σ2 H4 λv H5=>N1 v σ2 H5 else N0 σ2 H4)
  (he:∀H',aD H H'->Q (as.zipIdx.filterMap λx=>f x.2 x.1) H'):g_ (FY K a) g ti te σ H Q:=by
 have hzl:as.zipIdx.length=as.length:=List.length_zipIdx;refine j9 (J:=FY K a) (n:=as.length) (λi acc σ H'=>aD H H'/\acc=(as.zipIdx.take i).filterMap (λx=>f x.2 x.1)/\i<=as.length/\S σ) ⟨λ_ _ e=>e,rfl,J9 _,h0⟩ ?_ ?_ ?_ ?_ ?_ ?_
 ·rintro i acc σ H' ⟨_,rfl,_⟩
  have:=Bf (as:=as.zipIdx) (f:=λx=>f x.2 x.1) i;exact bh ⋯
 ·rintro i acc σ H' ⟨_,_,h,_⟩
  exact h
 ·rintro acc σ H' ⟨sm,_⟩
  exact⟨_,hl _ sm,by rw[JM];exact J8 _⟩
 ·rintro i acc σ H' hlt ⟨sm,_⟩
  exact⟨_,emb as[i],hl _ sm,by rw[JO,JJ hlt];rfl⟩
 ·rintro i x acc σ H' H2 hlt ⟨sm,rfl,hi,hS⟩ ⟨T,y,rfl,hT,rfl,hy⟩
  have hg:as[i]?=some as[i]:=JJ hlt;have hy:=hy _ (hl _ sm);rw[JO,hg]at hy;cases hy;have hz:as.zipIdx[i]?=some (as[i],i):=by rw[List.getElem?_zipIdx,hg];simp
  refine hs i as[i] hg σ H' T (λv σ2 H5=>_) (λσ2 H4=>_) hS sm hT (λv σ2 H2 hf s2 hS2=>⟨s2,?_,hlt,hS2⟩) (λσ2 H2 hf s2 hS2=>⟨s2,?_,hlt,hS2⟩)
  ·rw[mQ hz];simp only[hf];rfl
  ·rw[mQ hz];simp[hf]
 ·rintro acc σ H' ⟨sm,rfl,_⟩
  have e:(as.zipIdx.take as.length).filterMap (λx=>f x.2 x.1)=as.zipIdx.filterMap (λx=>f x.2 x.1):=by rw[<- hzl,Kj]
  rw[e];exact he _ sm
theorem iB{n:Nat}{f:Nat->Option V}(S:St->Prop)(h0:S σ)(hn:n<=1000000)
  (hs:∀i,i<n->∀σ H' (N1:V->St->Hp->Prop) (N0:St->Hp->Prop),S σ->aD H H'->(∀v σ2 H2,f i=some v->aD H H2->S σ2->N1 v σ2 H2)->(∀σ2 H2,f i=none->aD H H2->S σ2->N0 σ2 H2) ->
   g (.int (0+(i:Int))) σ H' λσ2 H3=>ti σ2 H3 λb H4=>if b=true then te σ2 H4 λv H5=>N1 v σ2 H5 else N0 σ2 H4)
  (he:∀H',aD H H'->Q ((List.range n).filterMap f) H'):g_ (zI 0 n) g ti te σ H Q:=by
 refine oS (lo:=0) (n:=n) (λi acc σ H'=>aD H H'/\acc=(List.range i).filterMap f/\i<=n/\S σ) ⟨λ_ _ e=>e,rfl,J9 _,h0⟩ ?_ ?_ ?_ ?_
 ·rintro i acc σ H' ⟨_,rfl,hi,_⟩
  have:=List.length_filterMap_le f (List.range i);rw[List.length_range]at this;exact bh ⋯
 ·rintro i acc σ H' ⟨_,_,h,_⟩
  exact h
 ·rintro i acc σ H' hi ⟨sm,rfl,_,hS⟩
  refine hs i hi σ H' (λv σ2 H5=>_) (λσ2 H4=>_) hS sm (λv σ2 H2 hf s2 hS2=>⟨s2,?_,hi,hS2⟩) (λσ2 H2 hf s2 hS2=>⟨s2,?_,hi,hS2⟩)
  ·rw[List.range_succ,List.filterMap_append];simp[hf]
  ·rw[List.range_succ,List.filterMap_append];simp[hf]
 ·rintro acc σ H' ⟨sm,rfl,_⟩
  exact he _ sm
end
end L2
namespace ThM
open PySem L2
def addNew(ks:KQ)(z:Str):List Str:=if z∈ks then ks else ks++[z]
theorem mem_addNew{ks:KQ}{z y:Str}:y∈addNew ks z↔y∈ks\/y=z:=by
 unfold addNew
 split
 ·rename_i h
  exact⟨.inl,λq=>q.elim id λe=>e▸h⟩
 ·rw[JY,JN]
def trueD(zs:KQ):List (cC×V):=zs.map λz=>(Sum.inr z,V.bl true)
theorem trueD_val(z:Str):∀zs:List Str,(cQ (trueD zs) (.inr z)).isSome=decide (z∈zs)
 | []=>rfl
 |y::zs=>by
  have ih:=trueD_val z zs;unfold trueD at ih ⊢;rw[Kc]
  by_cases e:y=z
  ·rw[gq (by rw[e])]
   simp[e]
  ·rw[f_ (λq=>e (Sum.inr.inj q)),ih]
   have:¬ z=y:=λq=>e q.symm;simp[this]
theorem trueD_put(zs:KQ)(z:Str):di (trueD zs) (.inr z) (V.bl true)=trueD (addNew zs z):=by
 unfold di;rw[gn,trueD_val];unfold addNew
 by_cases h:z∈zs
 ·rw[decide_eq_true h,if_pos rfl,if_pos h]
  unfold trueD;rw[JZ];refine List.map_congr_left λy _=>?_;show(if(Sum.inr y:cC)=Sum.inr z then _ else _)=_
  split<;>rfl
 ·rw[decide_eq_false h,if_neg nofun,if_neg h]
  unfold trueD;rw[JX];rfl
theorem trueD_len(zs:KQ):(trueD zs).length=zs.length:=by unfold trueD;rw[JM]
section
variable {α:Type}(f:List α->List α)
def rep:Nat->List α->List α
 |0,s=>s
 |n+1,s=>f (rep n s)
variable {f}
end
abbrev NR:=Str×List Str
def Ct(ks:KQ)(r:NR):List Str:=if(∀z∈r.2,z∈ks) then addNew ks r.1 else ks
def Aj(rs:List NR)(ks:KQ):List Str:=rs.foldl Ct ks
theorem nd_len{ks ms:KQ}(hn:ks.Nodup)(h:∀z∈ks,z∈ms):ks.length<=ms.length:=by
 induction ks generalizing ms with
 |nil=>exact J9 _
 |cons k ks ih=>
  rw[List.nodup_cons]at hn;have hk:=h k List.mem_cons_self;have h1:=ih (ms:=ms.erase k) hn.2 λz hz=>by
   have hne:z≠k:=λe=>hn.1 (e▸hz);exact(List.mem_erase_of_ne hne).mpr (h z (J1 _ hz))
  have h2:=List.length_erase_of_mem hk;have h3:=List.length_pos_of_mem hk;rw[JW];omega
def Fb(rs:List NR):List Str:=rep (Aj rs) rs.length []
end ThM
namespace ThM
open PySem L2
theorem kf{y:Str}:∀(zs ks:KQ),y∈zs.foldl addNew ks↔y∈ks\/y∈zs
 | [],ks=>by simp
 |z::zs,ks=>by
  rw[List.foldl_cons,kf zs,mem_addNew,J0];exact⟨λh=>h.elim (λh=>h.elim .inl λe=>.inr (.inl e)) λh=>.inr (.inr h),λh=>h.elim (λh=>.inl (.inl h)) λh=>h.elim (λe=>.inl (.inr e)) .inr⟩
def A5(ks:KQ)(r:NR):List Str:=if r.1∈ks then r.2.foldl addNew ks else ks
def zC(rs:List NR)(ks:KQ):List Str:=rs.foldl A5 ks
def FZ(ks:KQ)(r:NR):Prop:=r.1∈ks/\∀z∈r.2,z∈ks
noncomputable instance (ks:KQ)(r:NR):Decidable (FZ ks r):=by unfold FZ;infer_instance
def E6(st:Str)(rs:List NR):List Str:=rep (zC rs) rs.length [st]
def DY(rs:List NR)(r:NR):Bool:=decide (∀z∈r.2,z∈Fb rs)
def GJ(rs:List NR):List NR:=rs.filter (DY rs)
def Gw(st:Str)(rs:List NR):List Str:=E6 st (GJ rs)
def keep(st:Str)(rs:List NR)(r:NR):Bool:=decide (r.1∈Gw st rs)&&DY rs r
end ThM
namespace L2
open PySem PySem.Spec PyProof.Rows
section
variable {X:Cx}{body:List Stmt}{h₀:ExceptHandler}{hs:List ExceptHandler}{tb:TS}{pos:Pos}
theorem mM{e:Expr}{ta:TE}{f:Str}{K:KG}(hK:X.K=K)(he:PE X e ta)(hb:attributeBase e f X.env (eval e X.env)=eval e X.env):PE X (.Attribute e f pos) (Dk K ta f):=hK▸bK he hb
end
section
variable {X:Cx}{es:KW}{t:TA}{te:TE}
structure WA(X:Cx)(es:KW)(t:TA):Prop where
 out:PA X es t
structure WE(X:Cx)(e:Expr)(t:TE):Prop where
 out:PE X e t
structure WB(X:Cx)(b:List Stmt)(t:TS):Prop where
 out:ud X b t
structure WS(X:Cx)(s:Stmt)(t:TS):Prop where
 out:PS X s t
end
end L2
namespace L2
open PySem PySem.Spec PyProof.Rows
structure FT(k:Nat)(A:KR):Prop where
 dp:A.depth+3*k+5<recursionLimit
 un:A.units+16*k+200<cLine
structure FO(P:KP)(w:KS)(K:KG)(mg:KN)(base:Heap)(CX:ir)(k:Nat)(f:Addr)(fd:KO)(ps:KQ)(sp:Sp):Prop where
 len:∀vs H Q E,sp vs H Q E->vs.length=ps.length
 run:∀(A:KR) (outer:List Env) (s:KJ) (H:Hp) (args:Args) (us:KL) (vs:List V) (Q:VK) (E:XK),FT k A->nn P w K mg base A outer s H->BindsTo s fd args (ps.zip us)->aW vs us->sp vs H Q E ->
  codeAny (model P w) A (.call (.ref f) args) (CR CX outer P w H s Q E) s
structure JI(P:KP)(w:KS)(K:KG)(mg:KN)(base:Heap)(k:Nat)(C:Addr)(fn:Str):Prop where
 ex:∃(bm bmN:KL) (newId Bn inN B nid initId:String) (fI:Addr) (fd:KO) (ps:KQ),Av K C bm newId/\ExcBaseFacts Bn newId inN bmN/\bm.contains (.type Bn)=true/\ExcBaseFacts B nid initId bm /\
  PySem.W.findIn K (.ref C) "__init__"=some (some (.ref fI))/\PySem.W.typeIn K (.ref fI)=some (.type "function")/\FO P w K mg base bB k fI fd ps (mK C fn)/\dF K fd ps []
end L2
namespace L2
open PySem PySem.Spec PyProof.Rows QL
def Ei(H H':Hp):Prop:=∀b xs,H b=some (.tup xs)->H' b=some (.tup xs)
end L2
namespace L2
open PySem PySem.Spec PyProof.Rows QL aF
theorem GI{a:Addr}{P:Addr->Prop}:(∃p,V.ref a=V.ref p/\P p)=P a:=by simp
theorem GL{a:Int}{P:Int->Prop}:(∃p,V.int a=V.int p/\P p)=P a:=by simp
theorem GS{a:Bool}{P:Bool->Prop}:(∃p,V.bl a=V.bl p/\P p)=P a:=by simp
theorem G6{a:Str}{P:Str->Prop}:(∃p,V.str a=V.str p/\P p)=P a:=by simp
theorem GE{α:Type}{a:Addr}{P:Addr->α->Prop}:(∃p,∃x,V.ref a=V.ref p/\P p x) = ∃x,P a x:=by simp
theorem GF{α:Type}{a:Addr}{P:Addr->α->Prop}:(∃p,∃x,[V.ref a]=[V.ref p]/\P p x) = ∃x,P a x:=by simp
theorem G4{α:Type}{a:Addr}{v:V}{P:Addr->α->V->Prop}:(∃p,∃x,∃y,V.ref a=V.ref p/\[v]=[y]/\P p x y) = ∃x,P a x v:=by simp
theorem Gv{α β:Type}{a b:Addr}{P:Addr->Addr->α->β->Prop}:(∃p,∃q,∃x,∃y,V.ref a=V.ref p/\V.ref b=V.ref q/\P p q x y) = ∃x,∃y,P a b x y:=by simp
def Ga(i:Nat):TE:=λσ H Q=>match σ[i]? with
 |some (some v)=>Q v H
 |_=>False
def Dl(g:Int->Int->V):R2
 | .int i,.int j,H,Q=>Q (g i j) H
 |x,y,H,Q=>yu g x y H Q
def Gd(C:Int->Int->Prop)(g:Int->Int->V):R2
 | .int i,.int j,H,Q=>C i j/\Q (g i j) H
 |x,y,H,Q=>rI C g x y H Q
def xI(K:KG):R2
 | .ref p,.int i,H,Q=>∃xs,aQ K H p xs/\∃v,vq xs i=some v/\Q v H
 |x,y,H,Q=>zj K x y H Q
def xP(K:KG):R2
 | .ref p,.int i,H,Q=>∃xs,jv K H p xs/\∃v,vq xs i=some v/\Q v H
 |x,y,H,Q=>Bl K x y H Q
theorem AM{g:Int->Int->V}{x y:V}{H:Hp}{Q:VK}:Dl g x y H Q=yu g x y H Q:=by
 unfold Dl;split
 ·simp[yu]
 ·rfl
theorem DQ{C:Int->Int->Prop}{g:Int->Int->V}{x y:V}{H:Hp}{Q:VK}:Gd C g x y H Q=rI C g x y H Q:=by
 unfold Gd;split
 ·simp[rI]
 ·rfl
theorem xR{K:KG}{x y:V}{H:Hp}{Q:VK}:xI K x y H Q=zj K x y H Q:=by
 unfold xI;split
 ·simp[zj]
 ·rfl
theorem xp{K:KG}{x y:V}{H:Hp}{Q:VK}:xP K x y H Q=Bl K x y H Q:=by
 unfold xP;split
 ·simp[Bl]
 ·rfl
theorem CV{g:Int->Int->V}{i j:Int}{H:Hp}{Q:VK}:Dl g (.int i) (.int j) H Q=Q (g i j) H:=rfl
theorem En{C:Int->Int->Prop}{g:Int->Int->V}{i j:Int}{H:Hp}{Q:VK}:Gd C g (.int i) (.int j) H Q=(C i j/\Q (g i j) H):=rfl
theorem zW{K:KG}{p:Addr}{i:Int}{H:Hp}{Q:VK}:xI K (.ref p) (.int i) H Q = ∃xs,aQ K H p xs/\∃v,vq xs i=some v/\Q v H:=rfl
theorem BW{K:KG}{p:Addr}{i:Int}{H:Hp}{Q:VK}:xP K (.ref p) (.int i) H Q = ∃xs,jv K H p xs/\∃v,vq xs i=some v/\Q v H:=rfl
theorem Jv{α β:Type}{f:α->β}{a:α}{l:List α}:List.map f (a::l)=f a::List.map f l:=rfl
theorem I8{α β:Type}{f:α->β}:List.map f []=[]:=rfl
theorem Iv{α:Type}{a:α}{l m:List α}:(a::l)++m=a::(l++m):=rfl
theorem IG{α:Type}{m:List α}:[]++m=m:=rfl
theorem HI{α:Type}{a:α}{l:List α}:(a::l)[0]?=some a:=rfl
theorem H_{α:Type}{a:α}{l:List α}{n:Nat}:(a::l)[n+1]?=l[n]?:=rfl
theorem Io{α:Type}{a b:α}{l:List α}:(a::l).set 0 b=b::l:=rfl
theorem IZ{α:Type}{a b:α}{l:List α}{n:Nat}:(a::l).set (n+1) b=a::l.set n b:=rfl
section
variable {X:Cx}
theorem al(i:Nat){x:Str}{pos:Pos}(hN:autoParam (X.N[i]?=some x) zz0._auto_1)(hv:autoParam (Gg X.env.scope x) zz5._auto_1)(hd:autoParam ((x==("__debug__":Str))=false) zz1._auto_1)
  (hc:autoParam ((x==("__classdict__":Str))=false) zz1._auto_1):PE X (.Name x pos) (Ga i):=λpins s σ H Q I h=>pv i hN hv hd hc pins s σ H Q I (by
 unfold Ga at h
 split at h
 ·exact⟨_,‹_›,h⟩
 ·exact h.elim)
theorem bx.m0{f:Value->Value->Sem Value}{g:Int->Int->V}(h:bx X f (yu g)):bx X f (Dl g):=λpins s σ H x y v u Q I a b c=>h pins s σ H x y v u Q I a b (AM▸c)
theorem bx.m1{f:Value->Value->Sem Value}{C:Int->Int->Prop}{g:Int->Int->V}(h:bx X f (rI C g)):bx X f (Gd C g):=λpins s σ H x y v u Q I a b c=>h pins s σ H x y v u Q I a b (DQ▸c)
theorem cW:Ez X (xI X.K):=λe sl pins s σ H x y v u Q I a b c d=>sj e sl pins s σ H x y v u Q I a b (xR▸c) d
theorem iS:Ez X (xP X.K):=λe sl pins s σ H x y v u Q I a b c d=>Ep e sl pins s σ H x y v u Q I a b (xp▸c) d
end
inductive TrD:Dt->Prop
 |mk (i:Int) (ds:List Dt):(∀d∈ds,TrD d)->TrD (.tup (.int i::ds))
section
variable {β:Type}{A:Hp->Addr->β->Prop}
def aK(A:Hp->Addr->β->Prop)(H:Hp)(bs:KM)(ys:List β):Prop:=bs.length=ys.length/\∀(i:Nat) b y,bs[i]?=some b->ys[i]?=some y->A H b y
def jK(A:Hp->Addr->β->Prop)(H:Hp)(l:Addr)(ys:List β):Prop:=∃bs:List Addr,H l=some (.lst (bs.map V.ref))/\aK A H bs ys
theorem aK.nil{H:Hp}:aK A H [] []:=⟨rfl,λi b y e=>by simp at e⟩
theorem aK.mono{A':Hp->Addr->β->Prop}{H H':Hp}{bs:KM}{ys:List β}(h:aK A H bs ys)(u:∀b y,b∈bs->y∈ys->A H b y->A' H' b y):aK A' H' bs ys:=⟨h.1,λi b y e1 e2=>u b y (JP e1) (JP e2) (h.2 i b y e1 e2)⟩
theorem aK.snoc{H:Hp}{bs:KM}{ys:List β}{b:Addr}{y:β}(h:aK A H bs ys)(e:A H b y):aK A H (bs++[b]) (ys++[y]):=by
 refine⟨by rw[J7,J7,h.1];rfl,λi c z e1 e2=>?_⟩
 by_cases hi:i<bs.length
 ·rw[J6 hi]at e1
  rw[J6 (by rw[<- h.1];exact hi)]at e2;exact h.2 i c z e1 e2
 ·have pr:i=bs.length:=by
   have:=(JK.mp e1).1;simp at this;omega
  subst pr;rw[J5 (J8 _),Nat.sub_self]at e1;rw[h.1,J5 (J8 _),Nat.sub_self]at e2;cases e1;cases e2
  exact e
theorem aK.get{H:Hp}{bs:KM}{ys:List β}{i:Nat}{b:Addr}(h:aK A H bs ys)(e:bs[i]?=some b):∃y,ys[i]?=some y/\A H b y:=by
 have hi:=(JK.mp e).1;have e2:ys[i]?=some (ys[i]'(by rw[<- h.1];exact hi)):=JJ _;exact⟨_,e2,h.2 i b _ e e2⟩
theorem aK.one{H:Hp}{b:Addr}{y:β}(e:A H b y):aK A H [b] [y]:=aK.nil.snoc e
theorem aK.two{H:Hp}{b c:Addr}{y z:β}(e:A H b y)(e2:A H c z):aK A H [b,c] [y,z]:=(aK.one e).snoc e2
theorem aK.zip{H:Hp}{bs:KM}{ys:List β}(h:aK A H bs ys):bs.map V.ref=(bs.zip ys).map λx=>V.ref x.1:=by
 have e:=JZ (f:=Prod.fst) (g:=V.ref) (l:=bs.zip ys);rw[List.map_fst_zip (by rw[h.1];exact J8 _)]at e;exact e
theorem aK.at{H:Hp}{bs:KM}{ys:List β}(h:aK A H bs ys){i:Nat}{x:Addr×β}(e:(bs.zip ys)[i]?=some x):ys[i]?=some x.2/\A H x.1 x.2:=by
 obtain⟨b,y⟩:=x;obtain⟨e1,e2⟩:=List.getElem?_zip_eq_some.mp e;exact⟨e2,h.2 i b y e1 e2⟩
end
section
variable {K:KG}{g:TG}{ti:TT}{te:TE}{σ:St}{H:Hp}{Q:List V->Hp->Prop}{α β:Type}
theorem jN(A:Hp->Addr->β->Prop)(up:∀{H H':Hp} {b:Addr} {y:β},A H b y->aD H H'->A H' b y){a:Addr}{as:List α}{emb:α->V}{ys:List β}(hlen:as.length=ys.length)(S:St->Prop)(h0:S σ)(hl:∀H',aD H H'->aQ K H' a (as.map emb))(hn:as.length<=1000000)
  (hs:∀(i:Nat) x y,as[i]?=some x->ys[i]?=some y->∀σ H' (N1:V->St->Hp->Prop) (N0:St->Hp->Prop),S σ->aD H H'->(∀b σ2 H2,A H2 b y->aD H H2->aD H' H2->S σ2->N1 (.ref b) σ2 H2) ->
   g (emb x) σ H' λσ2 H3=>ti σ2 H3 λb H4=>if b=true then te σ2 H4 λv H5=>N1 v σ2 H5 else N0 σ2 H4)
  (he:∀bs H',aD H H'->aK A H' bs ys->Q (bs.map V.ref) H'):g_ (BB K a) g ti te σ H Q:=by
 refine dJ (xs:=as.map emb) (λi acc σ H'=>aD H H'/\(∃bs:List Addr,acc=bs.map V.ref/\aK A H' bs (ys.take i))/\i<=as.length/\S σ) ⟨λ_ _ e=>e,⟨[],rfl,aK.nil⟩,J9 _,h0⟩ ?_ ?_ ?_ ?_ ?_
 ·rintro i acc σ H' ⟨_,⟨bs,rfl,h⟩,_⟩
  have:=h.1;rw[Kk]at this;rw[JM];exact bh ⋯
 ·rintro i acc σ H' ⟨_,_,h,_⟩
  rw[JM];exact h
 ·rintro i acc σ H' ⟨sm,_⟩
  exact hl _ sm
 ·rintro i x acc σ H' hx ⟨sm,⟨bs,rfl,hb⟩,hi,hS⟩
  have hlt:i<as.length:=by have:=(JK.mp hx).1;rwa [JM]at this
  rw[JO,JJ hlt]at hx;cases hx;have hy:ys[i]?=some (ys[i]'⋯):=JJ ⋯;refine hs i as[i] _ (JJ hlt) hy σ H' (λv σ2 H5=>_) (λσ2 H4=>_) hS sm (λb σ2 H2 hA s2 s3 hS2=>⟨s2,⟨bs++[b],by rw[JX];rfl,?_⟩,hlt,hS2⟩)
  ·rw[List.take_add_one,hy]
   exact(hb.mono λb y _ _ h=>up h s3).snoc hA
 ·rintro acc σ H' ⟨sm,⟨bs,rfl,hb⟩,_⟩
  have e:ys.take (as.map emb).length=ys:=by rw[JM,hlen,Kj]
  rw[e]at hb;exact he _ _ sm hb
end
end L2
namespace L2
open PySem PySem.Spec PyProof.Rows QL PySem.Builtin
section
variable {X:Cx}
def wD(z:Str):Value->Bool
 | .str y _=>y.cps.toList==z.cps.toList
 |_=>false
theorem Cs{y z:Str}{t:Tok}(h:wD z (.str y t)=true):y=z:=by
 have h1:y.cps.toList=z.cps.toList:=by simpa[wD]using h
 cases y;cases z
 simp only[Str.mk.injEq];exact Array.toList_inj.mp h1
def rj:V->List V->Hp->VK->Prop:=λx vs H Q=>∃(l:Addr) (ts:KQ) (z:Str) (j:Nat),x=.ref l/\vs=[.str z]/\H l=some (.lst (ts.map V.str))/\ts[j]?=some z/\(∀m y,m<j->ts[m]?=some y->y≠z)/\Q (.int (j:Int)) H
theorem zB:GA X "list.index" rj:=by
 intro pins s σ H x vs v us Q I rx rv h;obtain⟨l,ts,z,j,rfl,rfl,hH,hj,hno,q⟩:=h;cases rx;obtain⟨u,rfl,ru⟩:=rv.one;obtain⟨t,rfl⟩:=ru;obtain⟨zz,its,n,r,hl,e⟩:=I.lstM hH;have hjl:j<ts.length:=(JK.mp hj).1;have hgl:∀(m:Nat) y,ts[m]?=some y->∃t',its[m]?=some (.str y t'):=by
  intro m y hy;obtain⟨w,hw,rw'⟩:=r.get (i:=m) (x:=.str y) (by rw[JO,hy];rfl);obtain⟨t',rfl⟩:=rw';exact⟨t',hw⟩
 have hll:its.length=ts.length:=by rw[<- hl,JM]
 have hsl:=I.lstM hH;have hz:its.length<=sizeLine:=by
  have:=zz;omega
 rw[sizeLine_eq]at hz;refine call_meets F.slot_list_index ⟨_,e,rfl⟩ F.entry_list_index (F.args_list_index_2 _ _)
  (MeetsSeq.list_index l its.toArray n (.str z t) (wD z) (λy hy=>?_) j (by rw[JS];omega) ⋯ ?_ ?_) ⟨e,?_⟩
 ·obtain⟨m,hm,em⟩:=List.getElem_of_mem (by simpa using hy)
  obtain⟨t',ht'⟩:=hgl m (ts[m]'⋯) (JJ _);rw[JJ hm,em]at ht'
  injection ht' with ht'
  subst ht';exact PySem.SeqRoads2.EqGives.str _ _ _ _
 ·obtain⟨t',ht'⟩:=hgl j z hj
  rw[JJ ⋯]at ht'
  injection ht' with ht'
  show wD z its[j]=true;rw[ht'];simp[wD]
 ·intro m hm hlt
  have hm':m<ts.length:=by rw[JS]at hm;omega
  obtain⟨t',ht'⟩:=hgl m (ts[m]'hm') (JJ _);rw[JJ ⋯]at ht'
  injection ht' with ht'
  show wD z its[m]=false;rw[ht'];cases hc:wD z (.str (ts[m]'hm') t') with
  |false=>rfl
  |true=>exact absurd (Cs hc) (hno m _ hlt (JJ hm'))
 ·exact⟨.int _,H,I.tok _,⟨_,rfl⟩,q⟩
end
section
variable {K:KG}{g:TG}{ti:TT}{te:TE}{σ:St}{H:Hp}{Q:List V->Hp->Prop}{α β:Type}
theorem va{as:List α}{f:α->Option β}{i:Nat}{x:α}(hx:as[i]?=some x):(as.take (i+1)).filterMap f=(as.take i).filterMap f++(f x).toList:=by
 rw[List.take_add_one,hx,List.filterMap_append];show _++List.filterMap f [x]=_;cases h:f x<;>simp[h]
theorem uy(A:Hp->Addr->β->Prop)(up:∀{H H':Hp} {b:Addr} {y:β},A H b y->aD H H'->A H' b y){a:Addr}{as:List α}{emb:α->V}{f:α->Option β}(S:St->Prop)(h0:S σ)(hl:∀H',aD H H'->aQ K H' a (as.map emb))(hn:as.length<=1000000)
  (hs:∀(i:Nat) x,as[i]?=some x->∀σ H' (N1:V->St->Hp->Prop) (N0:St->Hp->Prop),S σ->aD H H'->(∀b y σ2 H2,f x=some y->A H2 b y->aD H H2->aD H' H2->S σ2->N1 (.ref b) σ2 H2)->(∀σ2 H2,f x=none->aD H H2->aD H' H2->S σ2->N0 σ2 H2) ->
   g (emb x) σ H' λσ2 H3=>ti σ2 H3 λb H4=>if b=true then te σ2 H4 λv H5=>N1 v σ2 H5 else N0 σ2 H4)
  (he:∀bs H',aD H H'->aK A H' bs (as.filterMap f)->Q (bs.map V.ref) H'):g_ (BB K a) g ti te σ H Q:=by
 refine dJ (xs:=as.map emb) (λi acc σ H'=>aD H H'/\(∃bs:List Addr,acc=bs.map V.ref/\aK A H' bs ((as.take i).filterMap f))/\i<=as.length/\S σ) ⟨λ_ _ e=>e,⟨[],rfl,aK.nil⟩,J9 _,h0⟩ ?_ ?_ ?_ ?_ ?_
 ·rintro i acc σ H' ⟨_,⟨bs,rfl,h⟩,_⟩
  have:=h.1;have h2:=List.length_filterMap_le f (as.take i);rw[Kk]at h2;rw[JM];exact bh ⋯
 ·rintro i acc σ H' ⟨_,_,h,_⟩
  rw[JM];exact h
 ·rintro i acc σ H' ⟨sm,_⟩
  exact hl _ sm
 ·rintro i x acc σ H' hx ⟨sm,⟨bs,rfl,hb⟩,hi,hS⟩
  have hlt:i<as.length:=by have:=(JK.mp hx).1;rwa [JM]at this
  rw[JO,JJ hlt]at hx;cases hx;have hg:as[i]?=some as[i]:=JJ hlt;refine hs i as[i] hg σ H' (λv σ2 H5=>_) (λσ2 H4=>_) hS sm (λb y σ2 H2 hf hA s2 s3 hS2=>⟨s2,⟨bs++[b],by rw[JX];rfl,?_⟩,hlt,hS2⟩) (λσ2 H2 hf s2 s3 hS2=>⟨s2,⟨bs,rfl,?_⟩,hlt,hS2⟩)
  ·rw[va hg,hf]
   exact(hb.mono λb y _ _ h=>up h s3).snoc hA
  ·rw[va hg,hf]
   show aK A H2 bs (_++[]);rw[Kg];exact hb.mono λb y _ _ h=>up h s3
 ·rintro acc σ H' ⟨sm,⟨bs,rfl,hb⟩,_⟩
  have e:(as.take (as.map emb).length).filterMap f=as.filterMap f:=by rw[JM,Kj]
  rw[e]at hb;exact he _ _ sm hb
end
end L2
namespace L2
open PySem PySem.Spec PyProof.Rows QL PySem.Builtin PySem.Builtin.Str
section
variable {X:Cx}
def zV:R2:=λx y H Q=>∃(r:KI) (n:Nat),x=.str (tx r)/\y=.int (n:Int)/\1<=n/\n<=1000/\r.length<=1000/\Q (.str (tx (List.replicate n r).flatten)) H
theorem xa(r:KI):∀n (a:KI),(List.replicate n (tx r).cps).foldl (· ++ ·) a.toArray=(a++(List.replicate n r).flatten).toArray
 |0,a=>by simp
 |n+1,a=>by
  rw[List.replicate_succ,List.foldl_cons,List.replicate_succ,List.flatten_cons];have:a.toArray++(tx r).cps=(a++r).toArray:=by show a.toArray++r.toArray=_;simp
  rw[this,xa r n (a++r),Kh]
theorem xS:bx X (binaryOp .Mult) zV:=by
 intro pins s σ H x y v u Q I rx ry h;obtain⟨r,n,rfl,rfl,n1,n2,hr,q⟩:=h;obtain⟨t,rfl⟩:=rx;obtain⟨t',rfl⟩:=ry;have hl:(tx r).length*n<=1000*1000:=by rw[aG];exact Nat.mul_le_mul hr n2
 refine P.mul_str ?_ (λ_ _=>?_) (λ_ _=>?_) ?_
 ·rw[decide_eq_false ⋯,decide_eq_false ⋯];rfl
 ·have h1:((tx r).length:Int)<=1000:=by rw[aG];omega
  have h2:(1000:Int)<=(2 ^ 63-1)/(n:Int):=by
   rw[Int.le_ediv_iff_mul_le ⋯];omega
  omega
 ·rw[JU]
  show decide (_>sizeLine)=false;rw[decide_eq_false_iff_not];have:=sizeLine_eq;omega
 ·rw[if_neg ⋯]
  split
  ·rename_i hc
   have e:tx (List.replicate n r).flatten=tx r:=by
    rcases(by simpa[aG]using hc:(n:Int)=1\/r=[]) with h | h
    ·have:n=1:=by omega
     subst this;simp
    ·subst h;simp
   rw[e]at q;exact⟨.str (tx r),H,I,⟨_,rfl⟩,q⟩
  ·rw[JU]
   have e:(⟨(List.replicate n (tx r).cps).foldl (· ++ ·) #[]⟩:Str)=tx (List.replicate n r).flatten:=by
    have:=xa r n [];rw[Kx]at this;show Str.mk _=Str.mk _;rw[<- this]
   rw[e];have hz:(tx (List.replicate n r).flatten).length<=1000000:=by
    rw[aG,kg,Nat.mul_comm];rw[aG]at hl;exact hl
   exact⟨au hz,.str _,H,I.tok _,⟨_,rfl⟩,q⟩
end
theorem iH{H H':Hp}{l:Addr}{o:HO}(h:H l=none)(e:aC H l o=H'):aD H H'/\H' l=some o:=by subst e;exact⟨aj h,ae⟩
structure Df(K:KG)(x qual:Str)(st:Stmt)(f:Addr)(fd:KO)(dT:Addr):Prop where
 ex:∃(oc:Value) (od:KU) (kV doc pm:Value) (an:KU) (cdv ct:Value) (osl:Array (Option Value)),
  fd=PySem.W.fnOf x qual (cF st) (b9 st) (ak st) (.ref dT) kV doc pm an cdv ct/\K.lookup f=some ⟨oc,od,.func fd,osl⟩/\PySem.W.codeIn K cdv qual=true
structure E3(P:KP)(w:KS)(K:KG)(mg:KN)(base:Heap)(CX:ir)(k:Nat)(x:Str)(ps:KQ)(sp:Sp)(dvs:List V):Prop where
 ex:∃(f:Addr) (fd:KO) (ds:KL),aR P w K mg base CX k f fd ps sp/\mg x=some (.ref f)/\PySem.W.keepIn K (.ref f)=true/\dF K fd ps ds/\aW dvs ds
section
variable {P:KP}{w:KS}{K:KG}{mg:KN}{base:Heap}
theorem Df.okX{x qual:Str}{st:Stmt}{f dT:Addr}{fd:KO}{N ps:KQ}{k:Nat}{sp:Sp}(F:Df K x qual st f fd dT)(S:aB N ps (ak st))(len:∀vs H Q E,sp vs H Q E->vs.length=ps.length)
  (hbody:∀(cdv:Value) (A:KR) (outer:List Env) (s:KJ) (H:Hp) (vs:List V) (Q:VK) (E:XK),cw k (A.deeper (envOfC qual (ak st) s.heap.objs.size f cdv))->sp vs H Q E ->
   ∃t,ud (eZ (dz P w) P w K mg base N qual (ak st) f cdv A outer s H E) (b9 st) t/\t {nx:=λ_ H'=>Q .non H',rt:=Q} (start N vs) H):aR P w K mg base (dz P w) (k+1) f fd ps sp:=by
 obtain⟨oc,od,kV,doc,pm,an,cdv,ct,osl,rfl,lk,hcd⟩:=F.ex;exact zZ lk hcd S len λA outer s H vs Q E hr hsp=>hbody cdv A outer s H vs Q E hr hsp
end
section
variable {X:Cx}{CX:ir}{k:Nat}{x:Str}{ps:KQ}{sp:Sp}{E:XK}{p pos:Pos}{e:Expr}{es:KW}{t:TA}{dvs:List V}
theorem CA(C:E3 X.prog X.w X.K X.mg X.base CX k x ps sp dvs)(hr:cw k X.A)(hg:Gl X x)(hx:cJ CX X E)(ha:PA X (e::es) t)(hdb:autoParam ((x==("__debug__":Str))=false) zz2._auto_1)
  (hst:autoParam (starEach (e::es) X.env=(false,eval e X.env)::starEach es X.env) zz0._auto_1) (hpl:autoParam ((backTo pos (starEach es X.env)).any (·.1)=false) zz0._auto_1):PE X (.Call (.Name x p) (e::es) [] pos) (l_ sp dvs E t):=by
 obtain⟨f,fd,ds,F,hm,hk,hb,hv⟩:=C.ex;exact wW F hr hg hm hk hb hv hx ha hdb hst hpl
end
end L2
namespace TS
open PySem PyProof.Rows
section
variable {M:Model}{A:KR}{E:KF}{J:Shared->Prop}{σ:Type}
def eF(M:Model)(A:KR)(E:KF)(J:Shared->Prop){α:Type}(m:StateT σ Sem α)(Q:α->σ->Prop)(st:σ):Prop:=
 ∀s,J s->wpAny M A (m.run st) (λr s'=>J s'/\Q r.1 r.2) E s
theorem ay{α:Type}{a:α}{Q:α->σ->Prop}{st:σ}(h:Q a st):eF M A E J (pure a:StateT σ Sem α) Q st:=by
 intro s j;rw[StateT.run_pure];exact wpAny_pure ⟨j,h⟩
theorem ao{α β:Type}{m:StateT σ Sem α}{f:α->StateT σ Sem β}{Q:β->σ->Prop}{st:σ}
  (h:eF M A E J m (λa st'=>eF M A E J (f a) Q st') st):eF M A E J (m >>= f) Q st:=by
 intro s j;rw[StateT.run_bind]
 exact wpAny_bind (wpAny_mono (h s j) (λr s' h'=>h'.2 s' h'.1) λ_ _ e=>e)
theorem bz{α:Type}{m:StateT σ Sem α}{Q Q':α->σ->Prop}{st:σ}(h:eF M A E J m Q st)(hq:∀a st',Q a st'->Q' a st'):eF M A E J m Q' st:=
 λs j=>wpAny_mono (h s j) (λr _ h'=>⟨h'.1,hq _ _ h'.2⟩) λ_ _ e=>e
theorem gt{Q:σ->σ->Prop}{st:σ}(h:Q st st):eF M A E J (get:StateT σ Sem σ) Q st:=by
 intro s j;rw[StateT.run_get];exact wpAny_pure ⟨j,h⟩
theorem cT{f:σ->σ}{Q:PUnit->σ->Prop}{st:σ}(h:Q ⟨⟩ (f st)):eF M A E J (modify f:StateT σ Sem PUnit) Q st:=by
 intro s j;rw[StateT.run_modify];exact wpAny_pure ⟨j,h⟩
theorem FV{x:σ}{Q:PUnit->σ->Prop}{st:σ}(h:Q ⟨⟩ x):eF M A E J (set x:StateT σ Sem PUnit) Q st:=by
 intro s j;rw[StateT.run_set];exact wpAny_pure ⟨j,h⟩
theorem jX{α:Type}{m:Sem α}{Q:α->σ->Prop}{st:σ}(h:∀s,J s->wpAny M A m (λa s'=>J s'/\Q a st) E s) :
  eF M A E J (liftM m:StateT σ Sem α) Q st:=by
 intro s j;show wpAny M A ((StateT.lift m:StateT σ Sem α).run st) _ E s;rw[StateT.run_lift];exact wpAny_bind (wpAny_mono (h s j) (λa s' h'=>wpAny_pure h') λ_ _ e=>e)
theorem AT{β:Type}(f:Nat->β->StateT σ Sem (ForInStep β))(I:List Nat->β->σ->Prop)(Q:β->σ->Prop)
  (hs:∀x aY b st,I (x::aY) b st->eF M A E J (f x b) (λr st'=>match r with | .done b'=>Q b' st' | .yield b'=>I aY b' st') st)
  (he:∀b st,I [] b st->Q b st):∀(l:KI) (b:β) (st:σ),I l b st->eF M A E J (forIn l b f) Q st
 | [],b,st,h=>by rw[List.forIn_nil];exact ay (he _ _ h)
 |x::aY,b,st,h=>by
  rw[List.forIn_cons];refine ao (bz (hs x aY b st h) λr st' h'=>?_);cases r with
  |done b'=>exact ay h'
  |yield b'=>exact AT f I Q hs he aY b' st' h'
theorem dZ{β:Type}{a b:Nat}{f:Nat->β->StateT σ Sem (ForInStep β)}(I:Nat->β->σ->Prop){Q:β->σ->Prop}
  (hs:∀i c st,a<=i->i<b->I i c st->eF M A E J (f i c) (λr st'=>match r with | .done c'=>Q c' st' | .yield c'=>I (i+1) c' st') st)
  (he:∀c st,I (max a b) c st->Q c st) {c:β} {st:σ} (h:I a c st):eF M A E J (forIn [a:b] c f) Q st:=by
 rw[Std.Legacy.Range.forIn_eq_forIn_range'];have hz:([a:b]:Std.Legacy.Range).size=b-a:=by simp[Std.Legacy.Range.size]
 show eF M A E J (forIn (List.range' a ([a:b]:Std.Legacy.Range).size 1) c f) Q st;rw[hz];refine AT f (λl c st=>∃n,l.length=n/\∃i,a<=i/\l=List.range' i n 1/\i+n=max a b/\I i c st) Q ?_ ?_ _ c st ⟨b-a,by simp,a,J8 _,rfl,⋯,h⟩
 ·rintro x aY c st ⟨n,hn,i,hai,hl,hib,hI⟩
  cases n with
  |zero=>simp at hn
  |succ n=>
   rw[List.range'_succ]at hl;obtain⟨rfl,rfl⟩:=List.cons.inj hl;refine bz (hs x c st hai ⋯ hI) λr st' h'=>?_;cases r with
   |done c'=>exact h'
   |yield c'=>exact⟨n,by simp,x+1,⋯,rfl,⋯,h'⟩
 ·rintro c st ⟨n,hn,i,hai,hl,hib,hI⟩
  simp at hn;subst hn
  have:i=max a b:=by omega
  subst this;exact he _ _ hI
end
section
variable {prog:KP}{w:KS}{A:KR}{E:KF}{J:Shared->Prop}{a₀:Array Keyed}{kd:SortKind}{r:Keyed->Nat}
def tH(prog:KP)(w:KS)(A:KR)(J:Shared->Prop)(a₀:Array Keyed)(kd:SortKind)(r:Keyed->Nat):Prop:=
 ∀x,x∈a₀.toList->∀y,y∈a₀.toList->∀s,J s->wpAny (model prog w) A (keyLt' kd x.1 y.1) (λb s'=>J s'/\b=decide (r x<r y)) (λ_ _=>False) s
theorem BI(C:tH prog w A J a₀ kd r){x y:Keyed}(hx:x∈a₀.toList)(hy:y∈a₀.toList){st:SortSt}(hk:kindOf st=kd){Q:Option Bool->SortSt->Prop}
  (h:Q (some (decide (r x<r y))) st):eF (model prog w) A E J (lt' x y) Q st:=by
 rw[lt'_eq];refine ao (gt ?_);rw[hk];refine ao (jX λs j=>wpAny_attempt (wpAny_mono (C x hx y hy s j) (λb s' h'=>?_) λ_ _ e=>?_))
 ·obtain⟨j',rfl⟩:=h';exact⟨j',ay h⟩
 ·exact e.elim
theorem b8{arr:Array Keyed}{i:Nat}{p:Keyed}(hp:arr[i]?=some p){st:SortSt}{Q:Keyed->SortSt->Prop}(h:Q p st):eF (model prog w) A E J (elem' arr i) Q st:=by
 rw[elem'_eq,hp];exact ay h
def gC:Bool->Keyed->Array Keyed->Nat->Nat->Nat->StateT SortSt Sem (Option Nat):=sortPriv% PySem.Builtin.gallop
theorem ug{n lo hi:Nat}{st:SortSt}{Q:Option Nat->SortSt->Prop}{B:Nat->Bool}{bey:Nat->StateT SortSt Sem (Option Bool)}
  (be:∀i,i<n->∀{Q':Option Bool->SortSt->Prop},Q' (some (B i)) st->eF (model prog w) A E J (bey i) Q' st)
  (hm:∀i j,i<=j->j<n->B j=true->B i=true) (hl:lo<=hi) (hh:hi<=n) (fl:∀i,i<lo->B i=true) (fh:∀i,hi<=i->i<n->B i=false)
  (h:∀k,k<=n->(∀i,i<k->B i=true)->(∀i,k<=i->i<n->B i=false)->Q (some k) st)
  {F:Nat->Option (Option Nat)×Nat×Nat->StateT SortSt Sem (ForInStep (Option (Option Nat)×Nat×Nat))}
  (hF:∀x l u,F x (none,l,u)=if l≥u then pure (ForInStep.done (none,l,u)) else bey (l+(u-l)/2) >>= λo=>match o with
   |some t=>if t=true then pure (ForInStep.yield (none,l+(u-l)/2+1,u)) else pure (ForInStep.yield (none,l,l+(u-l)/2))
   |none=>pure (ForInStep.done (some none,l,u)))
  {G:Option (Option Nat)×Nat×Nat->StateT SortSt Sem (Option Nat)} (hG:∀l u,G (none,l,u)=pure (some u)) :
  eF (model prog w) A E J (forIn [0:n] (none,lo,hi) F >>= G) Q st:=by
 refine ao (bz (dZ (I:=λx c st'=>st'=st/\∃l u,c=(none,l,u)/\l<=u/\u<=n/\u-l<=n-x/\(∀i,i<l->B i=true)/\(∀i,u<=i->i<n->B i=false))
  (Q:=λc st'=>st'=st/\∃l u,c=(none,l,u)/\u<=n/\(∀i,i<u->B i=true)/\(∀i,u<=i->i<n->B i=false)) ?s ?e ⟨rfl,lo,hi,rfl,hl,hh,⋯,fl,fh⟩) ?p)
 case e=>
  rintro c st' ⟨rfl,l,u,rfl,h1,h2,h3,h4,h5⟩;exact⟨rfl,l,u,rfl,h2,λi hi'=>h4 i ⋯,h5⟩
 case s=>
  rintro x c st' _ hxn ⟨rfl,l,u,rfl,h1,h2,h3,h4,h5⟩;rw[hF]
  by_cases hge:l≥u
  ·rw[if_pos hge];exact ay ⟨rfl,l,u,rfl,h2,λi hi'=>h4 i ⋯,h5⟩
  ·rw[if_neg hge]
   refine ao (be (l+(u-l)/2) ⋯ ?_);dsimp only
   by_cases hB:B (l+(u-l)/2)=true
   ·rw[if_pos hB];exact ay ⟨rfl,_,u,rfl,⋯,h2,⋯,λi hi'=>hm i _ ⋯ ⋯ hB,h5⟩
   ·rw[if_neg hB]
    refine ay ⟨rfl,l,_,rfl,⋯,⋯,⋯,h4,λi q1 q2=>?_⟩;cases hc:B i with
    |false=>rfl
    |true=>exact absurd (hm _ i q1 q2 hc) hB
 case p=>
  rintro c st' ⟨rfl,l,u,rfl,h2,h4,h5⟩;rw[hG];exact ay (h u h2 h4 h5)
theorem AZ{left:Bool}{key:Keyed}{arr:Array Keyed}{base n hint:Nat}{st:SortSt}{Q:Option Nat->SortSt->Prop}{B:Nat->Bool}(C:tH prog w A J a₀ kd r)(hk:kindOf st=kd)
  (hkey:key∈a₀.toList) (hi:hint<n) (hx:∀i,i<n->∃x,arr[base+i]?=some x/\x∈a₀.toList/\B i=if left then decide (r x<r key) else !decide (r key<r x))
  (hm:∀i j,i<=j->j<n->B j=true->B i=true)
  (h:∀k,k<=n->(∀i,i<k->B i=true)->(∀i,k<=i->i<n->B i=false)->Q (some k) st) :
  eF (model prog w) A E J (gC left key arr base n hint) Q st:=by
 have be:∀i,i<n->∀{Q':Option Bool->SortSt->Prop},Q' (some (B i)) st->eF (model prog w) A E J (do
   let x <- elem' arr (base+i)
   if left=true then lt' x key else do
    let y <- lt' key x
    pure (y.map (!·))) Q' st:=by
  intro i hi Q' q;obtain⟨x,e,m,b⟩:=hx i hi;refine ao (b8 e ?_);cases left with
  |true=>rw[if_pos rfl]at b ⊢;exact BI C m hkey hk (by rw[<- b];exact q)
  |false=>
   rw[if_neg nofun]at b ⊢;exact ao (BI C hkey m hk (ay (by show Q' (some (!decide _)) st;rw[<- b];exact q)))
 unfold gC;refine ao (be hint hi ?_);dsimp only
 by_cases hb:B hint=true
 ·rw[if_pos hb]
  refine ao (bz (dZ (I:=λx c st'=>st'=st/\∃l o,c=(none,l,o)/\l<o/\x+1<=o/\hint+l<n/\B (hint+l)=true)
   (Q:=λc st'=>st'=st/\∃l o,c=(none,l,o)/\l<o/\hint+l<n/\B (hint+l)=true/\(n-hint<=o\/B (hint+o)=false)) ?s1 ?e1 ⟨rfl,0,1,rfl,⋯,⋯,⋯,hb⟩) ?p1)
  case e1=>
   rintro c st' ⟨rfl,l,o,rfl,h1,h2,h3,h4⟩;exact⟨rfl,l,o,rfl,h1,h3,h4,.inl ⋯⟩
  case s1=>
   rintro x c st' _ hxn ⟨rfl,l,o,rfl,h1,h2,h3,h4⟩;dsimp only
   by_cases hge:o≥n-hint
   ·rw[if_pos hge];exact ay ⟨rfl,l,o,rfl,h1,h3,h4,.inl hge⟩
   ·rw[if_neg hge]
    refine ao (be (hint+o) ⋯ ?_);dsimp only
    by_cases hB:B (hint+o)=true
    ·rw[hB,if_neg nofun];exact ay ⟨rfl,o,2*o+1,rfl,⋯,⋯,⋯,hB⟩
    ·have hB':B (hint+o)=false:=by cases hc:B (hint+o)<;>simp_all
     rw[hB',if_pos nofun];exact ay ⟨rfl,l,o,rfl,h1,h3,h4,.inr hB'⟩
  case p1=>
   rintro c st' ⟨rfl,l,o,rfl,h1,h3,h4,h5⟩;dsimp only;have fl:∀i,i<hint+l+1->B i=true:=λi hi'=>hm i (hint+l) ⋯ h3 h4;have fh:∀i,hint+min o (n-hint)<=i->i<n->B i=false:=by
    intro i q1 q2;rcases h5 with h5 | h5
    ·omega
    ·cases hc:B i with
     |false=>rfl
     |true=>exact absurd (hm (hint+o) i ⋯ q2 hc) (by rw[h5];decide)
   exact ug be hm ⋯ ⋯ fl fh h (λx l u=>ite_congr rfl (λ_=>rfl) λ_=>congrArg _ (funext λo=>by cases o<;>rfl)) (λl u=>rfl)
 ·have hb':B hint=false:=by cases hc:B hint<;>simp_all
  rw[if_neg hb];refine ao (bz (dZ (I:=λx c st'=>st'=st/\∃l o,c=(none,l,o)/\l<o/\x+1<=o/\l<=hint/\B (hint-l)=false)
   (Q:=λc st'=>st'=st/\∃l o,c=(none,l,o)/\l<o/\l<=hint/\B (hint-l)=false/\(hint+1<=o\/(o<=hint/\B (hint-o)=true))) ?s2 ?e2 ⟨rfl,0,1,rfl,⋯,⋯,⋯,hb'⟩) ?p2)
  case e2=>
   rintro c st' ⟨rfl,l,o,rfl,h1,h2,h3,h4⟩;exact⟨rfl,l,o,rfl,h1,h3,h4,.inl ⋯⟩
  case s2=>
   rintro x c st' _ hxn ⟨rfl,l,o,rfl,h1,h2,h3,h4⟩;dsimp only
   by_cases hge:o≥hint+1
   ·rw[if_pos hge];exact ay ⟨rfl,l,o,rfl,h1,h3,h4,.inl hge⟩
   ·rw[if_neg hge]
    refine ao (be (hint-o) ⋯ ?_);dsimp only
    by_cases hB:B (hint-o)=true
    ·rw[if_pos hB];exact ay ⟨rfl,l,o,rfl,h1,h3,h4,.inr ⟨⋯,hB⟩⟩
    ·have hB':B (hint-o)=false:=by cases hc:B (hint-o)<;>simp_all
     rw[if_neg hB];exact ay ⟨rfl,o,2*o+1,rfl,⋯,⋯,⋯,hB'⟩
  case p2=>
   rintro c st' ⟨rfl,l,o,rfl,h1,h3,h4,h5⟩;dsimp only;have fl:∀i,i<hint+1-min o (hint+1)->B i=true:=by
    intro i q1;rcases h5 with h5 | ⟨h5,h6⟩
    ·omega
    ·exact hm i (hint-o) ⋯ ⋯ h6
   have fh:∀i,hint-l<=i->i<n->B i=false:=by
    intro i q1 q2;cases hc:B i with
    |false=>rfl
    |true=>exact absurd (hm (hint-l) i ⋯ q2 hc) (by rw[h4];decide)
   exact ug be hm ⋯ ⋯ fl fh h (λx l u=>ite_congr rfl (λ_=>rfl) λ_=>congrArg _ (funext λo=>by cases o<;>rfl)) (λl u=>rfl)
end
structure MI{α:Type}(le:α->α->Prop)(X Y out rx ry:List α):Prop where
 ex:∃px py,X=px++rx/\Y=py++ry/\out.Perm (px++py)
 so:out.Pairwise le
 ah:∀p,p∈out->∀q,q∈rx++ry->le p q
namespace MI
variable {α:Type}{le:α->α->Prop}{X Y out rx ry:List α}
theorem start(X Y:List α):MI le X Y [] X Y:=⟨⟨[],[],rfl,rfl,List.Perm.refl _⟩,.nil,λp h=>nomatch h⟩
theorem swap(h:MI le X Y out rx ry):MI le Y X out ry rx:=by
 obtain⟨⟨px,py,e1,e2,e3⟩,s,a⟩:=h;exact⟨⟨py,px,e2,e1,e3.trans List.perm_append_comm⟩,s,λp hp q hq=>a p hp q (by rw[JY]at hq ⊢;exact hq.symm)⟩
theorem takeX{c rx':List α}(h:MI le X Y out (c++rx') ry)(sX:X.Pairwise le)(hc:∀p,p∈c->∀q,q∈ry->le p q):MI le X Y (out++c) rx' ry:=by
 obtain⟨⟨px,py,e1,e2,e3⟩,s,a⟩:=h;rw[e1]at sX;have s1:=(List.pairwise_append.mp sX).2.1;have s2:=List.pairwise_append.mp s1;refine⟨⟨px++c,py,by rw[e1,Kh],e2,?_⟩,List.pairwise_append.mpr ⟨s,s2.1,λp hp q hq=>a p hp q (by simp[hq])⟩,λp hp q hq=>?_⟩
 ·refine(e3.append_right c).trans ?_
  rw[Kh,Kh];exact List.perm_append_comm.append_left px
 ·rcases JY.mp hp with hp | hp
  ·exact a p hp q (by rcases JY.mp hq with hq | hq<;>simp[hq])
  ·rcases JY.mp hq with hq | hq
   ·exact s2.2.2 p hp q hq
   ·exact hc p hp q hq
theorem takeY{c ry':List α}(h:MI le X Y out rx (c++ry'))(sY:Y.Pairwise le)(hc:∀p,p∈c->∀q,q∈rx->le p q):MI le X Y (out++c) rx ry':=
 (h.swap.takeX sY hc).swap
theorem oneX{x:α}{rx':List α}(h:MI le X Y out (x::rx') ry)(sX:X.Pairwise le)(hc:∀q,q∈ry->le x q):MI le X Y (out++[x]) rx' ry:=
 takeX (c:=[x]) h sX λp hp q hq=>by rw[JN]at hp;subst hp;exact hc q hq
theorem oneY{y:α}{ry':List α}(h:MI le X Y out rx (y::ry'))(sY:Y.Pairwise le)(hc:∀q,q∈rx->le y q):MI le X Y (out++[y]) rx ry':=
 takeY (c:=[y]) h sY λp hp q hq=>by rw[JN]at hp;subst hp;exact hc q hq
theorem len(h:MI le X Y out rx ry):out.length+rx.length+ry.length=X.length+Y.length:=by
 obtain⟨⟨px,py,e1,e2,e3⟩,_,_⟩:=h;have:=e3.length_eq;rw[e1,e2];simp at this ⊢;omega
theorem fin{l:List α}(h:MI le X Y out rx ry)(hp:l.Perm (rx++ry))(hs:l.Pairwise le):(out++l).Pairwise le/\(out++l).Perm (X++Y):=by
 obtain⟨⟨px,py,e1,e2,e3⟩,s,a⟩:=h;refine⟨List.pairwise_append.mpr ⟨s,hs,λp h1 q h2=>a p h1 q (hp.mem_iff.mp h2)⟩,?_⟩;rw[e1,e2];refine(e3.append hp).trans ?_;rw[Kh,Kh];refine List.Perm.append_left px ?_;rw[<- Kh,<- Kh];exact List.perm_append_comm.append_right ry
theorem finX(h:MI le X Y out rx [])(sX:X.Pairwise le):(out++rx).Pairwise le/\(out++rx).Perm (X++Y):=by
 obtain⟨px,py,e1,_,_⟩:=h.ex;exact h.fin (by rw[Kg]) (by rw[e1]at sX;exact(List.pairwise_append.mp sX).2.1)
theorem finY(h:MI le X Y out [] ry)(sY:Y.Pairwise le):(out++ry).Pairwise le/\(out++ry).Perm (X++Y):=by
 obtain⟨px,py,_,e2,_⟩:=h.ex;exact h.fin (by rw[Kx]) (by rw[e2]at sY;exact(List.pairwise_append.mp sY).2.1)
theorem lastX{x:α}(h:MI le X Y out [x] ry)(sY:Y.Pairwise le)(hx:∀q,q∈ry->le q x):(out++(ry++[x])).Pairwise le/\(out++(ry++[x])).Perm (X++Y):=by
 obtain⟨px,py,_,e2,_⟩:=h.ex;refine h.fin List.perm_append_comm ?_;rw[e2]at sY;exact List.pairwise_append.mpr ⟨(List.pairwise_append.mp sY).2.1,List.pairwise_singleton _ _,λp hp q hq=>by rw[JN]at hq;subst hq;exact hx p hp⟩
end MI
theorem w6{α:Type}(a:Array α)(i:Nat):(a.extract i a.size).toList=a.toList.drop i:=by
 rw[Array.toList_extract];simp[List.extract];exact List.take_of_length_le (by simp)
theorem mS{α:Type}(a:Array α)(i k:Nat):(a.extract i (i+k)).toList=(a.toList.drop i).take k:=by
 rw[Array.toList_extract];simp[List.extract]
theorem fw{α:Type}(a:Array α){i:Nat}(h:i<a.toList.length):∃x,a[i]?=some x/\a.toList.drop i=x::a.toList.drop (i+1)/\x∈a.toList:=by
 refine⟨a.toList[i],?_,List.drop_eq_getElem_cons h,JT h⟩;rw[<- Array.getElem?_toList,JJ h]
def SG(st st':SortSt):Prop:=kindOf st'=kindOf st/\arrOf st'=arrOf st/\pendingOf st'=pendingOf st/\failedOf st'=failedOf st
theorem SG.refl(st:SortSt):SG st st:=⟨rfl,rfl,rfl,rfl⟩
abbrev PA:=Array Keyed
abbrev SM:=StateT SortSt Sem
abbrev ia(r:Keyed->Nat):Keyed->Keyed->Prop:=λp q=>r p<=r q
def u7:PA->PA->SM PA:=sortPriv% PySem.Builtin.mergeLo
def kW:Nat->SM Unit:=sortPriv% PySem.Builtin.setMinGallop
abbrev L1:=Option PA×PA×Nat×Nat×Nat×Nat
abbrev Gm:=Option PA×PA×Nat×Nat×Nat×Nat×Nat
abbrev L0:=Option PA×PA×Nat×Nat×Nat
abbrev At(a b:PA)(o:PA)(i j:Nat):PA:=o++a.extract i a.size++b.extract j b.size
abbrev D2(a b:PA)(o:PA)(i j:Nat):PA:=o++b.extract j b.size++a.extract i a.size
def G3(a b:PA)(g:Nat)(o:PA)(i j m n:Nat):SM (ForInStep L1):=
 elem' b j >>= λy=>elem' a i >>= λx=>lt' y x >>= λt=>match t with
 |some t=>if t=true then elem' b j >>= λy=>
   if(j+1==b.size)=true then pure (.done (some (At a b (o.push y) i (j+1)),o.push y,i,j+1,0,n+1))
   else if n+1≥g then pure (.done (none,o.push y,i,j+1,0,n+1)) else pure (.yield (none,o.push y,i,j+1,0,n+1))
  else elem' a i >>= λx=>
   if(i+1+1==a.size)=true then pure (.done (some (D2 a b (o.push x) (i+1) j),o.push x,i+1,j,m+1,0))
   else if m+1≥g then pure (.done (none,o.push x,i+1,j,m+1,0)) else pure (.yield (none,o.push x,i+1,j,m+1,0))
 |_=>pure (.done (some (At a b o i j),o,i,j,m,n))
def Gq(a b:PA)(o:PA)(i j g m n:Nat):SM (ForInStep Gm):=
 elem' a i >>= λx=>if(i+1+1==a.size)=true then pure (.done (some (D2 a b (o.push x) (i+1) j),o.push x,i+1,j,g,m,n))
  else if(decide (m<7)&&decide (n<7))=true then pure (.done (none,o.push x,i+1,j,g,m,n)) else pure (.yield (none,o.push x,i+1,j,g,m,n))
def Gj(a b:PA)(o:PA)(i j g m n:Nat):SM (ForInStep Gm):=
 elem' b j >>= λy=>if(j+1==b.size)=true then pure (.done (some (At a b (o.push y) i (j+1)),o.push y,i,j+1,g,m,n))
  else elem' a i >>= λx=>gC true x b (j+1) (b.size-(j+1)) 0 >>= λt=>match t with
  |some k=>if k>0 then
    if(j+1+k==b.size)=true then pure (.done (some (At a b (o.push y++b.extract (j+1) (j+1+k)) i (j+1+k)),o.push y++b.extract (j+1) (j+1+k),i,j+1+k,g,m,k))
    else Gq a b (o.push y++b.extract (j+1) (j+1+k)) i (j+1+k) g m k
   else Gq a b (o.push y) i (j+1) g m k
  |_=>pure (.done (some (At a b (o.push y) i (j+1)),o.push y,i,j+1,g,m,n))
def Fv(a b:PA)(o:PA)(i j g m n:Nat):SM (ForInStep Gm):=
 kW g >>= λ_=>elem' b j >>= λy=>gC false y a i (a.size-i) 0 >>= λt=>match t with
  |some k=>if k>0 then
    if(i+k+1==a.size)=true then pure (.done (some (D2 a b (o++a.extract i (i+k)) (i+k) j),o++a.extract i (i+k),i+k,j,g,k,n))
    else if(i+k==a.size)=true then pure (.done (some (At a b (o++a.extract i (i+k)) (i+k) j),o++a.extract i (i+k),i+k,j,g,k,n))
    else Gj a b (o++a.extract i (i+k)) (i+k) j g k n
   else Gj a b o i j g k n
  |_=>pure (.done (some (At a b o i j),o,i,j,g,m,n))
def G5(a b:PA)(s:L0):SM (ForInStep L0):=
 forIn [0:a.size+b.size] ((none,s.2.1,s.2.2.1,s.2.2.2.1,0,0):L1) (λ_ t=>G3 a b s.2.2.2.2 t.2.1 t.2.2.1 t.2.2.2.1 t.2.2.2.2.1 t.2.2.2.2.2) >>= λt=>
 match t.1 with
 |some z=>pure (.done (some z,t.2.1,t.2.2.1,t.2.2.2.1,s.2.2.2.2))
 |none=>liftM (rule "list.sort.gallop") >>= λ_=>
  forIn [0:a.size+b.size] ((none,t.2.1,t.2.2.1,t.2.2.2.1,s.2.2.2.2+1,t.2.2.2.2.1,t.2.2.2.2.2):Gm) (λ_ u=>
   if u.2.2.2.2.1>1 then Fv a b u.2.1 u.2.2.1 u.2.2.2.1 (u.2.2.2.2.1-1) u.2.2.2.2.2.1 u.2.2.2.2.2.2 else Fv a b u.2.1 u.2.2.1 u.2.2.2.1 u.2.2.2.2.1 u.2.2.2.2.2.1 u.2.2.2.2.2.2) >>= λu=>
  match u.1 with
  |some z=>pure (.done (some z,u.2.1,u.2.2.1,u.2.2.2.1,u.2.2.2.2.1))
  |none=>kW (u.2.2.2.2.1+1) >>= λ_=>pure (.yield (none,u.2.1,u.2.2.1,u.2.2.2.1,u.2.2.2.2.1+1))
def DP(a b:PA):SM PA:=
 liftM (rule "list.sort.merge-lo") >>= λ_=>elem' b 0 >>= λy=>
 if((1:Nat)==b.size)=true then pure (At a b #[y] 0 1) else if((0:Nat)+1==a.size)=true then pure (D2 a b #[y] 0 1) else
 get >>= λst=>forIn [0:a.size+b.size] ((none,#[y],0,1,gallopOf st):L0) (λ_ s=>G5 a b s) >>= λs=>
 match s.1 with
 |some z=>pure z
 |none=>liftM (unsupported "internal:list.sort.merge-bound":Sem PA)
theorem aL{α β:Type}{m m':SM α}{f g:α->SM β}(e:m=m')(h:∀x,f x=g x):(m >>= f)=(m' >>= g):=by rw[e,funext h]
theorem gg{β:Type}{n:Nat}{c:β}{f g:Nat->β->SM (ForInStep β)}(h:∀x s,f x s=g x s):(forIn [0:n] c f:SM β)=forIn [0:n] c g:=by
 rw[show f=g from funext λx=>funext λs=>h x s]
theorem dE{α:Type}{c:Prop}[Decidable c]{a b a' b':α}(h:a=a')(k:b=b'):(if c then a else b)=if c then a' else b':=by rw[h,k]
theorem vx(a b:PA):u7 a b=DP a b:=by
 refine aL rfl λ_=>aL rfl λy=>dE rfl (dE rfl (aL rfl λst=>aL (gg λ_ s=>?_) λs=>?_))
 ·refine aL (gg λ_ t=>?_) λt=>?_
  ·refine aL rfl λy=>aL rfl λx=>aL rfl λt=>?_
   rfl
  ·obtain⟨z,t⟩:=t
   cases z with
   |some z=>rfl
   |none=>
    refine aL rfl λ_=>aL (gg λ_ u=>dE ?_ ?_) λu=>?_
    ·rfl
    ·rfl
    ·obtain⟨z,u⟩:=u
     cases z<;>rfl
 ·obtain⟨z,s⟩:=s
  cases z<;>rfl
section
variable {prog:KP}{w:KS}{A:KR}{E:KF}{J:Shared->Prop}{a₀:Array Keyed}{kd:SortKind}{r:Keyed->Nat}
def bt(r:Keyed->Nat)(left:Bool)(key p:Keyed):Prop:=if left=true then r p<r key else r p<=r key
noncomputable instance (left:Bool)(key p:Keyed):Decidable (bt r left key p):=by unfold bt;infer_instance
theorem B6{arr:PA}{base n t:Nat}(hn:base+n<=arr.toList.length)(ht:t<n):arr[base+t]?=((arr.toList.drop base).take n)[t]?:=by
 rw[List.getElem?_take,if_pos ht,List.getElem?_drop,Array.getElem?_toList]
theorem p9{left:Bool}{key:Keyed}{arr:PA}{base n hint:Nat}{st:SortSt}{Q:Option Nat->SortSt->Prop}(C:tH prog w A J a₀ kd r)(hk:kindOf st=kd)(hkey:key∈a₀.toList)
  (hi:hint<n) (hn:base+n<=arr.toList.length) (mem:∀p,p∈(arr.toList.drop base).take n->p∈a₀.toList) (srt:((arr.toList.drop base).take n).Pairwise (ia r))
  (h:∀k,k<=n->(∀p,p∈((arr.toList.drop base).take n).take k->bt r left key p)->(∀p,p∈((arr.toList.drop base).take n).drop k->¬ bt r left key p)->Q (some k) st) :
  eF (model prog w) A E J (gC left key arr base n hint) Q st:=by
 generalize hS:(arr.toList.drop base).take n=S at *;have lS:S.length=n:=by rw[<- hS];simp at hn ⊢;omega
 have at':∀t,t<n->arr[base+t]?=S[t]?:=λt ht=>by rw[<- hS];exact B6 hn ht
 refine AZ (B:=λt=>match S[t]? with | some x=>decide (bt r left key x) | none=>false) C hk hkey hi (λt ht=>?_) (λi j hij hj hB=>?_) λk hk' f g=>h k hk' (λp hp=>?_) λp hp=>?_
 ·have e:S[t]?=some S[t]:=JJ ⋯
  refine⟨S[t],by rw[at' t ht,e],mem _ (JT _),?_⟩;rw[e];dsimp only
  unfold bt;cases left with
  |true=>simp
  |false=>
   simp only[Bool.false_eq_true,if_false]
   by_cases q:r key<r S[t]
   ·rw[decide_eq_true q,decide_eq_false ⋯];rfl
   ·rw[decide_eq_false q,decide_eq_true ⋯];rfl
 ·have e1:S[i]?=some S[i]:=JJ ⋯
  have e2:S[j]?=some S[j]:=JJ ⋯;rw[e2]at hB;rw[e1];dsimp only at hB ⊢
  have hle:r S[i]<=r S[j]:=by
   rcases Nat.lt_or_ge i j with q | q
   ·exact(List.pairwise_iff_getElem.mp srt) i j ⋯ ⋯ q
   ·have:i=j:=by omega
    subst this;exact J8 _
  have hB':=of_decide_eq_true hB;refine decide_eq_true ?_;unfold bt at hB' ⊢
  split at hB'<;>rename_i hc
  ·rw[if_pos hc];omega
  ·rw[if_neg hc];omega
 ·obtain⟨t,ht,e⟩:=List.mem_iff_getElem.mp hp
  rw[Kk]at ht;rw[List.getElem_take]at e;have:=f t ⋯;rw[JJ ⋯]at this;rw[<- e];exact of_decide_eq_true this
 ·obtain⟨t,ht,e⟩:=List.mem_iff_getElem.mp hp
  rw[Kl]at ht;rw[List.getElem_drop]at e;have:=g (k+t) ⋯ ⋯;rw[JJ ⋯]at this;rw[<- e];exact of_decide_eq_false this
theorem kH{left:Bool}{key p:Keyed}(h:¬ bt r left key p):if left=true then r key<=r p else r key<r p:=by
 unfold bt at h
 split at h<;>rename_i hc
 ·rw[if_pos hc];omega
 ·rw[if_neg hc];omega
structure MC(prog:KP)(w:KS)(A:KR)(J:Shared->Prop)(a₀:PA)(kd:SortKind)(r:Keyed->Nat)(a b:PA):Prop where
 C:tH prog w A J a₀ kd r
 ha:∀p,p∈a.toList->p∈a₀.toList
 hb:∀p,p∈b.toList->p∈a₀.toList
 sa:a.toList.Pairwise (ia r)
 sb:b.toList.Pairwise (ia r)
 hl:∀x,a[a.toList.length-1]?=some x->∀q,q∈b.toList->r q<=r x
def iA(r:Keyed->Nat)(a b z:PA):Prop:=z.toList.Pairwise (ia r)/\z.toList.Perm (a.toList++b.toList)
structure jl(r:Keyed->Nat)(a b o:PA)(i j:Nat):Prop where
 mi:MI (ia r) a.toList b.toList o.toList (a.toList.drop i) (b.toList.drop j)
 hi:i+1<a.toList.length
 hj:j<b.toList.length
def PG(r:Keyed->Nat)(a b:PA)(k:Nat)(z:Option PA)(o:PA)(i j:Nat):Prop:=match z with
 |some z=>iA r a b z
 |none=>jl r a b o i j/\k<=o.size
variable {a b:PA}
theorem jl.lt{o:PA}{i j:Nat}(h:jl r a b o i j):o.size<a.size+b.size:=by
 have:=h.mi.len;have h1:=h.hi;have h2:=h.hj
 simp at this h1 h2;omega
theorem F4(m:MC prog w A J a₀ kd r a b){o:PA}{i j:Nat}(h:MI (ia r) a.toList b.toList o.toList (a.toList.drop i) (b.toList.drop j))(hj:(j==b.size)=true\/(i==a.size)=true):iA r a b (At a b o i j):=by
 unfold iA;rw[show(At a b o i j).toList=o.toList++(a.toList.drop i++b.toList.drop j) by simp only[At,Array.toList_append,w6,Kh]];rcases hj with hj | hj
 ·have e:b.toList.drop j=[]:=List.drop_eq_nil_of_le (by have:=eq_of_beq hj;simp;omega)
  rw[e]at h ⊢;rw[Kg];exact h.finX m.sa
 ·have e:a.toList.drop i=[]:=List.drop_eq_nil_of_le (by have:=eq_of_beq hj;simp;omega)
  rw[e]at h ⊢;rw[Kx];exact h.finY m.sb
theorem Gh(m:MC prog w A J a₀ kd r a b){o:PA}{i j:Nat}(h:MI (ia r) a.toList b.toList o.toList (a.toList.drop i) (b.toList.drop j))(hi:(i+1==a.size)=true):iA r a b (D2 a b o i j):=by
 have e:=eq_of_beq hi;obtain⟨x,e1,e2,e3⟩:=fw a (i:=i) (by simp;omega);have e4:a.toList.drop (i+1)=[]:=List.drop_eq_nil_of_le (by simp;omega);unfold iA;rw[show(D2 a b o i j).toList=o.toList++(b.toList.drop j++a.toList.drop i) by simp only[D2,Array.toList_append,w6,Kh],e2,e4];rw[e2,e4]at h;refine h.lastX m.sb λq hq=>m.hl x ?_ q (List.mem_of_mem_drop hq);rw[show a.toList.length-1=i by simp;omega];exact e1
theorem mZ{l:List Keyed}(s:l.Pairwise (ia r)){i:Nat}{y:Keyed}(e:l.drop i=y::l.drop (i+1)):∀q,q∈l.drop i->r y<=r q:=by
 intro q hq;have:=s.sublist (List.drop_sublist i l);rw[e]at this hq;rcases J0.mp hq with rfl | hq
 ·exact J8 _
 ·exact(List.pairwise_cons.mp this).1 q hq
theorem cA{x y:Nat}(h:¬ (x==y)=true):x≠y:=λe=>h (by rw[e];exact beq_self_eq_true y)
theorem Fz(m:MC prog w A J a₀ kd r a b){st:SortSt}(hk:kindOf st=kd){o:PA}{i j g u v:Nat}(h:jl r a b o i j) :
  eF (model prog w) A E J (G3 a b g o i j u v) (λt st'=>st'=st/\match t with
   | .done s=>PG r a b (o.size+1) s.1 s.2.1 s.2.2.1 s.2.2.2.1
   | .yield s=>s.1=none/\PG r a b (o.size+1) s.1 s.2.1 s.2.2.1 s.2.2.2.1) st:=by
 unfold G3;obtain⟨y,b1,b2,b3⟩:=fw b h.hj;obtain⟨x,a1,a2,a3⟩:=fw a (i:=i) (by have:=h.hi;omega);refine ao (b8 b1 (ao (b8 a1 (ao (BI m.C (m.hb _ b3) (m.ha _ a3) hk ?_)))));dsimp only;have mi:=h.mi
 by_cases hw:r y<r x
 ·rw[if_pos (decide_eq_true hw)]
  refine ao (b8 b1 ?_);rw[b2]at mi;have mi':MI (ia r) a.toList b.toList (o.push y).toList (a.toList.drop i) (b.toList.drop (j+1)):=by
   rw[Array.toList_push];exact mi.oneY m.sb λq hq=>by have:=mZ m.sa a2 q hq;show r y<=r q;omega
  by_cases hc:(j+1==b.size)=true
  ·rw[if_pos hc];exact ay ⟨rfl,F4 m mi' (.inl hc)⟩
  ·rw[if_neg hc]
   have iv:jl r a b (o.push y) i (j+1):=⟨mi',h.hi,by have:=cA hc;have:=h.hj;simp at this ⊢;omega⟩
   split
   ·exact ay ⟨rfl,iv,by simp⟩
   ·exact ay ⟨rfl,rfl,iv,by simp⟩
 ·rw[if_neg (by simpa using hw)]
  refine ao (b8 a1 ?_);rw[a2]at mi;have mi':MI (ia r) a.toList b.toList (o.push x).toList (a.toList.drop (i+1)) (b.toList.drop j):=by
   rw[Array.toList_push];exact mi.oneX m.sa λq hq=>by have:=mZ m.sb b2 q hq;show r x<=r q;omega
  by_cases hc:(i+1+1==a.size)=true
  ·rw[if_pos hc];exact ay ⟨rfl,Gh m mi' hc⟩
  ·rw[if_neg hc]
   have iv:jl r a b (o.push x) (i+1) j:=⟨mi',by have:=cA hc;have:=h.hi;simp at this ⊢;omega,h.hj⟩
   split
   ·exact ay ⟨rfl,iv,by simp⟩
   ·exact ay ⟨rfl,rfl,iv,by simp⟩
theorem mV{g:Nat}{st:SortSt}{Q:Unit->SortSt->Prop}(h:∀st',SG st st'->Q () st'):eF (model prog w) A E J (kW g) Q st:=by
 unfold kW;exact cT (h _ ⟨rfl,rfl,rfl,rfl⟩)
theorem xm{l:List Keyed}(i:Nat):(l.drop i).take (l.length-i)=l.drop i:=List.take_of_length_le (by simp)
theorem DH(m:MC prog w A J a₀ kd r a b){st:SortSt}{o:PA}{i j g u v k:Nat}(h:jl r a b o i j)(hk:k<=o.size)(hx:∀x,a[i]?=some x->∀q,q∈b.toList.drop j->r x<=r q) :
  eF (model prog w) A E J (Gq a b o i j g u v) (λt st'=>st'=st/\match t with
   | .done s=>PG r a b (k+1) s.1 s.2.1 s.2.2.1 s.2.2.2.1
   | .yield s=>s.1=none/\PG r a b (k+1) s.1 s.2.1 s.2.2.1 s.2.2.2.1) st:=by
 unfold Gq;obtain⟨x,a1,a2,a3⟩:=fw a (i:=i) (by have:=h.hi;omega);refine ao (b8 a1 ?_);have mi:=h.mi;rw[a2]at mi;have mi':MI (ia r) a.toList b.toList (o.push x).toList (a.toList.drop (i+1)) (b.toList.drop j):=by
  rw[Array.toList_push];exact mi.oneX m.sa (hx x a1)
 by_cases hc:(i+1+1==a.size)=true
 ·rw[if_pos hc];exact ay ⟨rfl,Gh m mi' hc⟩
 ·rw[if_neg hc]
  have iv:jl r a b (o.push x) (i+1) j:=⟨mi',by have:=cA hc;have:=h.hi;simp at this ⊢;omega,h.hj⟩
  split
  ·exact ay ⟨rfl,iv,by simp;omega⟩
  ·exact ay ⟨rfl,rfl,iv,by simp;omega⟩
theorem jo(l:List Keyed)(i k:Nat):l.drop i=(l.drop i).take k++l.drop (i+k):=by
 rw[<- List.drop_drop];exact(List.take_append_drop k _).symm
theorem DF(m:MC prog w A J a₀ kd r a b){st:SortSt}(hk:kindOf st=kd){o:PA}{i j g u v k:Nat}(h:jl r a b o i j)(hz:k<=o.size)(hy:∀y,b[j]?=some y->∀q,q∈a.toList.drop i->r y<=r q) :
  eF (model prog w) A E J (Gj a b o i j g u v) (λt st'=>st'=st/\match t with
   | .done s=>PG r a b (k+1) s.1 s.2.1 s.2.2.1 s.2.2.2.1
   | .yield s=>s.1=none/\PG r a b (k+1) s.1 s.2.1 s.2.2.1 s.2.2.2.1) st:=by
 unfold Gj;obtain⟨y,b1,b2,b3⟩:=fw b h.hj;obtain⟨x,a1,a2,a3⟩:=fw a (i:=i) (by have:=h.hi;omega);refine ao (b8 b1 ?_);have mi:=h.mi;rw[b2]at mi;have mi':MI (ia r) a.toList b.toList (o.push y).toList (a.toList.drop i) (b.toList.drop (j+1)):=by
  rw[Array.toList_push];exact mi.oneY m.sb (hy y b1)
 by_cases hc:(j+1==b.size)=true
 ·rw[if_pos hc];exact ay ⟨rfl,F4 m mi' (.inl hc)⟩
 ·rw[if_neg hc]
  have hj:=h.hj;have hj1:j+1<b.size:=by have:=cA hc;simp at hj;omega
  have sg:((b.toList.drop (j+1)).take (b.size-(j+1)))=b.toList.drop (j+1):=by have:=xm (l:=b.toList) (j+1);simpa using this
  refine ao (b8 a1 (ao (p9 m.C hk (m.ha _ a3) ⋯ (by simp;omega) (by rw[sg];exact λp hp=>m.hb p (List.mem_of_mem_drop hp)) (by rw[sg];exact m.sb.sublist (List.drop_sublist _ _)) λe he f1 f2=>?_)));rw[sg]at f1 f2;dsimp only;have g1:∀p,p∈(b.toList.drop (j+1)).take e->∀q,q∈a.toList.drop i->r p<=r q:=λp hp q hq=>by
   have q1:r p<r x:=f1 p hp;have:=mZ m.sa a2 q hq;omega
  have g2:∀q,q∈b.toList.drop (j+1+e)->r x<=r q:=λq hq=>by
   have q1:=kH (f2 q (by rw[List.drop_drop];exact hq));exact q1
  by_cases he0:e>0
  ·rw[if_pos he0]
   have mi2:MI (ia r) a.toList b.toList (o.push y++b.extract (j+1) (j+1+e)).toList (a.toList.drop i) (b.toList.drop (j+1+e)):=by
    rw[Array.toList_append,mS];rw[jo b.toList (j+1) e]at mi';exact mi'.takeY m.sb g1
   by_cases hc2:(j+1+e==b.size)=true
   ·rw[if_pos hc2];exact ay ⟨rfl,F4 m mi2 (.inl hc2)⟩
   ·rw[if_neg hc2]
    exact DH m ⟨mi2,h.hi,by have:=cA hc2;simp;omega⟩ (by simp;omega) λx' e' q hq=>by rw[a1]at e';cases e';exact g2 q hq
  ·rw[if_neg he0]
   have e0:e=0:=by omega
   subst e0;exact DH m ⟨mi',h.hi,by simp;omega⟩ (by simp;omega) λx' e' q hq=>by rw[a1]at e';cases e';exact g2 q hq
theorem FJ(m:MC prog w A J a₀ kd r a b){st:SortSt}(hk:kindOf st=kd){o:PA}{i j g u v:Nat}(h:jl r a b o i j) :
  eF (model prog w) A E J (Fv a b o i j g u v) (λt st'=>SG st st'/\match t with
   | .done s=>PG r a b (o.size+1) s.1 s.2.1 s.2.2.1 s.2.2.2.1
   | .yield s=>s.1=none/\PG r a b (o.size+1) s.1 s.2.1 s.2.2.1 s.2.2.2.1) st:=by
 unfold Fv;refine ao (mV λst' hg=>?_);have hk':kindOf st'=kd:=hg.1.trans hk;obtain⟨y,b1,b2,b3⟩:=fw b h.hj;have hi:=h.hi;have hi0:i+1<a.size:=by simpa using hi
 have sg:((a.toList.drop i).take (a.size-i))=a.toList.drop i:=by have:=xm (l:=a.toList) i;simpa using this
 refine ao (b8 b1 (ao (p9 m.C hk' (m.hb _ b3) ⋯ (by simp;omega) (by rw[sg];exact λp hp=>m.ha p (List.mem_of_mem_drop hp)) (by rw[sg];exact m.sa.sublist (List.drop_sublist _ _)) λe he f1 f2=>?_)));rw[sg]at f1 f2;dsimp only;have g1:∀p,p∈(a.toList.drop i).take e->∀q,q∈b.toList.drop j->r p<=r q:=λp hp q hq=>by
  have q1:r p<=r y:=f1 p hp;have:=mZ m.sb b2 q hq;omega
 have g2:∀q,q∈a.toList.drop (i+e)->r y<=r q:=λq hq=>by
  have q1:r y<r q:=kH (f2 q (by rw[List.drop_drop];exact hq));omega
 by_cases he0:e>0
 ·rw[if_pos he0]
  have mi2:MI (ia r) a.toList b.toList (o++a.extract i (i+e)).toList (a.toList.drop (i+e)) (b.toList.drop j):=by
   rw[Array.toList_append,mS];have mi:=h.mi;rw[jo a.toList i e]at mi;exact mi.takeX m.sa g1
  by_cases hc:(i+e+1==a.size)=true
  ·rw[if_pos hc];exact ay ⟨hg,Gh m mi2 hc⟩
  ·rw[if_neg hc]
   by_cases hc2:(i+e==a.size)=true
   ·rw[if_pos hc2];exact ay ⟨hg,F4 m mi2 (.inr hc2)⟩
   ·rw[if_neg hc2]
    refine bz (DF (k:=o.size) m hk' ⟨mi2,by have:=cA hc;have:=cA hc2;simp;omega,h.hj⟩ (by simp) λy' e' q hq=>by rw[b1]at e';cases e';exact g2 q hq) λt s2 q=>⟨by rw[q.1];exact hg,q.2⟩
 ·rw[if_neg he0]
  have e0:e=0:=by omega
  subst e0;exact bz (DF (k:=o.size) m hk' h (J8 _) λy' e' q hq=>by rw[b1]at e';cases e';exact g2 q hq) λt s2 q=>⟨by rw[q.1];exact hg,q.2⟩
theorem SG.trans{x y z:SortSt}(h:SG x y)(k:SG y z):SG x z:=⟨k.1.trans h.1,k.2.1.trans h.2.1,k.2.2.1.trans h.2.2.1,k.2.2.2.trans h.2.2.2⟩
theorem FE(m:MC prog w A J a₀ kd r a b){st:SortSt}(hk:kindOf st=kd){s:L0}(h:jl r a b s.2.1 s.2.2.1 s.2.2.2.1) :
  eF (model prog w) A E J (G5 a b s) (λt st'=>SG st st'/\match t with
   | .done u=>∃z,u.1=some z/\iA r a b z
   | .yield u=>u.1=none/\jl r a b u.2.1 u.2.2.1 u.2.2.2.1/\s.2.1.size+1<=u.2.1.size) st:=by
 unfold G5;refine ao (bz (dZ (I:=λx c st'=>st'=st/\c.1=none/\jl r a b c.2.1 c.2.2.1 c.2.2.2.1/\s.2.1.size+x<=c.2.1.size)
  (Q:=λc st'=>st'=st/\PG r a b (s.2.1.size+1) c.1 c.2.1 c.2.2.1 c.2.2.2.1) ?s1 ?e1 ⟨rfl,rfl,h,J8 _⟩) ?p1)
 case e1=>
  rintro c st' ⟨rfl,c1,iv,hx⟩;have:=iv.lt;omega
 case s1=>
  rintro x c st' _ hx ⟨rfl,c1,iv,hz⟩;refine bz (Fz m hk iv) λt st2 q=>?_;obtain⟨rfl,q⟩:=q;cases t with
  |done u=>
   refine⟨rfl,?_⟩;dsimp only at q
   revert q;unfold PG;cases u.1 with
   |some z=>exact id
   |none=>exact λq=>⟨q.1,by have:=q.2;omega⟩
  |yield u=>
   obtain⟨q1,q2⟩:=q;rw[q1]at q2;exact⟨rfl,q1,q2.1,by have:=q2.2;omega⟩
 case p1=>
  rintro⟨z,o,i,j,u,v⟩ st' ⟨rfl,q⟩;cases z with
  |some z=>exact ay ⟨SG.refl _,z,rfl,q⟩
  |none=>
   obtain⟨iv,hz⟩:=q;dsimp only;refine ao (jX λ_ jj=>wpAny_rule ⟨jj,?_⟩);refine ao (bz (dZ (I:=λx c st2=>SG st' st2/\c.1=none/\jl r a b c.2.1 c.2.2.1 c.2.2.2.1/\s.2.1.size+1<=c.2.1.size)
    (Q:=λc st2=>SG st' st2/\PG r a b (s.2.1.size+1) c.1 c.2.1 c.2.2.1 c.2.2.2.1) ?s2 ?e2 ⟨SG.refl _,rfl,iv,hz⟩) ?p2)
   case e2=>
    rintro c st2 ⟨hg,c1,iv,hx⟩;exact⟨hg,by rw[c1];exact⟨iv,hx⟩⟩
   case s2=>
    rintro x c st2 _ hx ⟨hg,c1,iv,hz⟩;have key:∀g,eF (model prog w) A E J (Fv a b c.2.1 c.2.2.1 c.2.2.2.1 g c.2.2.2.2.2.1 c.2.2.2.2.2.2) (λt st3=>match t with
      | .done c'=>SG st' st3/\PG r a b (s.2.1.size+1) c'.1 c'.2.1 c'.2.2.1 c'.2.2.2.1
      | .yield c'=>SG st' st3/\c'.1=none/\jl r a b c'.2.1 c'.2.2.1 c'.2.2.2.1/\s.2.1.size+1<=c'.2.1.size) st2:=by
     intro g;refine bz (FJ m (hg.1.trans hk) iv) λt st3 q=>?_;obtain⟨hg2,q⟩:=q;cases t with
     |done u=>
      refine⟨hg.trans hg2,?_⟩;dsimp only at q
      revert q;unfold PG;cases u.1 with
      |some z=>exact id
      |none=>exact λq=>⟨q.1,by have:=q.2;omega⟩
     |yield u=>
      obtain⟨q1,q2⟩:=q;rw[q1]at q2;exact⟨hg.trans hg2,q1,q2.1,by have:=q2.2;omega⟩
    split
    ·exact bz (key _) λt st3 q=>by cases t<;>exact q
    ·exact bz (key _) λt st3 q=>by cases t<;>exact q
   case p2=>
    rintro⟨z,o2,i2,j2,g2,u2,v2⟩ st2 ⟨hg,q⟩;cases z with
    |some z=>exact ay ⟨hg,z,rfl,q⟩
    |none=>exact ao (mV λst3 hg2=>ay ⟨hg.trans hg2,rfl,q.1,q.2⟩)
theorem yY(m:MC prog w A J a₀ kd r a b){st:SortSt}(hk:kindOf st=kd){Q:PA->SortSt->Prop}(h0:∀y,b[0]?=some y->∀q,q∈a.toList->r y<=r q)
  (na:0<a.toList.length) (nb:0<b.toList.length) (h:∀l st',SG st st'->iA r a b l->Q l st'):eF (model prog w) A E J (u7 a b) Q st:=by
 rw[vx];unfold DP
 obtain⟨y,b1,b2,b3⟩:=fw b nb;refine ao (jX λs j=>wpAny_rule ⟨j,ao (b8 b1 ?_)⟩);have mi:MI (ia r) a.toList b.toList (#[y]:PA).toList (a.toList.drop 0) (b.toList.drop 1):=by
  have:=MI.start (le:=ia r) a.toList b.toList;rw[show b.toList=y::b.toList.drop 1 from b2]at this;have h2:=MI.oneY (by rw[show b.toList=y::b.toList.drop 1 from b2];exact this) m.sb (h0 y b1);exact h2
 by_cases hc:((1:Nat)==b.size)=true
 ·rw[if_pos hc];exact ay (h _ _ (SG.refl _) (F4 m mi (.inl hc)))
 ·rw[if_neg hc]
  by_cases hc2:((0:Nat)+1==a.size)=true
  ·rw[if_pos hc2];exact ay (h _ _ (SG.refl _) (Gh m mi hc2))
  ·rw[if_neg hc2]
   refine ao (gt ?_);refine ao (bz (dZ (I:=λx c st'=>SG st st'/\c.1=none/\jl r a b c.2.1 c.2.2.1 c.2.2.2.1/\x+1<=c.2.1.size)
    (Q:=λc st'=>SG st st'/\∃z,c.1=some z/\iA r a b z) ?s ?e ⟨SG.refl _,rfl,⟨mi,by have:=cA hc2;simp at na ⊢;omega,by have:=cA hc;simp at nb ⊢;omega⟩,by simp⟩) ?p)
   case e=>
    rintro c st' ⟨_,c1,iv,hx⟩;have:=iv.lt;omega
   case s=>
    rintro x c st' _ hx ⟨hg,c1,iv,hz⟩;refine bz (FE m (hg.1.trans hk) iv) λt st2 q=>?_;obtain⟨hg2,q⟩:=q;cases t with
    |done u=>exact⟨hg.trans hg2,q⟩
    |yield u=>exact⟨hg.trans hg2,q.1,q.2.1,by have:=q.2.2;omega⟩
   case p=>
    rintro⟨z,u⟩ st' ⟨hg,z',e,q⟩;dsimp only at e;subst e;exact ay (h _ _ hg q)
end
def vi:PA->PA->SM PA:=sortPriv% PySem.Builtin.mergeHi
abbrev H1:=Option PA×Nat×Nat×PA×Nat×Nat
abbrev H2:=Option PA×Nat×Nat×PA×Nat×Nat×Nat
abbrev H0:=Option PA×Nat×Nat×PA×Nat
abbrev Ar(a b:PA)(i j:Nat)(o:PA):PA:=a.extract 0 i++b.extract 0 j++o.reverse
abbrev Ff(a b:PA)(i j:Nat)(o:PA):PA:=b.extract 0 j++a.extract 0 i++o.reverse
def B9(a b:PA)(g:Nat)(i j:Nat)(o:PA)(m n:Nat):SM (ForInStep H1):=
 elem' b (j-1) >>= λy=>elem' a (i-1) >>= λx=>lt' y x >>= λt=>match t with
 |some t=>if t=true then elem' a (i-1) >>= λx=>
   if(i-1==0)=true then pure (.done (some (Ar a b (i-1) j (o.push x)),i-1,j,o.push x,m+1,0))
   else if m+1≥g then pure (.done (none,i-1,j,o.push x,m+1,0)) else pure (.yield (none,i-1,j,o.push x,m+1,0))
  else elem' b (j-1) >>= λy=>
   if(j-1==1)=true then pure (.done (some (Ff a b i (j-1) (o.push y)),i,j-1,o.push y,0,n+1))
   else if n+1≥g then pure (.done (none,i,j-1,o.push y,0,n+1)) else pure (.yield (none,i,j-1,o.push y,0,n+1))
 |_=>pure (.done (some (Ar a b i j o),i,j,o,m,n))
def Go(a b:PA)(i j:Nat)(o:PA)(g m n:Nat):SM (ForInStep H2):=
 elem' a (i-1) >>= λx=>if(i-1==0)=true then pure (.done (some (Ar a b (i-1) j (o.push x)),i-1,j,o.push x,g,m,n))
  else if(decide (m<7)&&decide (n<7))=true then pure (.done (none,i-1,j,o.push x,g,m,n)) else pure (.yield (none,i-1,j,o.push x,g,m,n))
def Gn(a b:PA)(i j:Nat)(o:PA)(g m n:Nat):SM (ForInStep H2):=
 elem' b (j-1) >>= λy=>if(j-1==1)=true then pure (.done (some (Ff a b i (j-1) (o.push y)),i,j-1,o.push y,g,m,n))
  else elem' a (i-1) >>= λx=>gC true x b 0 (j-1) (j-1-1) >>= λt=>match t with
  |some k=>if j-1-k>0 then
    if(k==1)=true then pure (.done (some (Ff a b i k (o.push y++(b.extract k (j-1)).reverse)),i,k,o.push y++(b.extract k (j-1)).reverse,g,m,j-1-k))
    else if(k==0)=true then pure (.done (some (Ar a b i k (o.push y++(b.extract k (j-1)).reverse)),i,k,o.push y++(b.extract k (j-1)).reverse,g,m,j-1-k))
    else Go a b i k (o.push y++(b.extract k (j-1)).reverse) g m (j-1-k)
   else Go a b i (j-1) (o.push y) g m (j-1-k)
  |_=>pure (.done (some (Ar a b i (j-1) (o.push y)),i,j-1,o.push y,g,m,n))
def pr(a b:PA)(i j:Nat)(o:PA)(g m n:Nat):SM (ForInStep H2):=
 kW g >>= λ_=>elem' b (j-1) >>= λy=>gC false y a 0 i (i-1) >>= λt=>match t with
  |some k=>if i-k>0 then
    if(k==0)=true then pure (.done (some (Ar a b k j (o++(a.extract k i).reverse)),k,j,o++(a.extract k i).reverse,g,i-k,n))
    else Gn a b k j (o++(a.extract k i).reverse) g (i-k) n
   else Gn a b i j o g (i-k) n
  |_=>pure (.done (some (Ar a b i j o),i,j,o,g,m,n))
def Gy(a b:PA)(s:H0):SM (ForInStep H0):=
 forIn [0:a.size+b.size] ((none,s.2.1,s.2.2.1,s.2.2.2.1,0,0):H1) (λ_ t=>B9 a b s.2.2.2.2 t.2.1 t.2.2.1 t.2.2.2.1 t.2.2.2.2.1 t.2.2.2.2.2) >>= λt=>
 match t.1 with
 |some z=>pure (.done (some z,t.2.1,t.2.2.1,t.2.2.2.1,s.2.2.2.2))
 |none=>liftM (rule "list.sort.gallop") >>= λ_=>
  forIn [0:a.size+b.size] ((none,t.2.1,t.2.2.1,t.2.2.2.1,s.2.2.2.2+1,t.2.2.2.2.1,t.2.2.2.2.2):H2) (λ_ u=>
   if u.2.2.2.2.1>1 then pr a b u.2.1 u.2.2.1 u.2.2.2.1 (u.2.2.2.2.1-1) u.2.2.2.2.2.1 u.2.2.2.2.2.2 else pr a b u.2.1 u.2.2.1 u.2.2.2.1 u.2.2.2.2.1 u.2.2.2.2.2.1 u.2.2.2.2.2.2) >>= λu=>
  match u.1 with
  |some z=>pure (.done (some z,u.2.1,u.2.2.1,u.2.2.2.1,u.2.2.2.2.1))
  |none=>kW (u.2.2.2.2.1+1) >>= λ_=>pure (.yield (none,u.2.1,u.2.2.1,u.2.2.2.1,u.2.2.2.2.1+1))
def DG(a b:PA):SM PA:=
 liftM (rule "list.sort.merge-hi") >>= λ_=>elem' a (a.size-1) >>= λx=>
 if(a.size-1==0)=true then pure (Ar a b (a.size-1) b.size #[x]) else if(b.size==1)=true then pure (Ff a b (a.size-1) b.size #[x]) else
 get >>= λst=>forIn [0:a.size+b.size] ((none,a.size-1,b.size,#[x],gallopOf st):H0) (λ_ s=>Gy a b s) >>= λs=>
 match s.1 with
 |some z=>pure z
 |none=>liftM (unsupported "internal:list.sort.merge-bound":Sem PA)
theorem wM(a b:PA):vi a b=DG a b:=by
 refine aL rfl λ_=>aL rfl λy=>dE rfl (dE rfl (aL rfl λst=>aL (gg λ_ s=>?_) λs=>?_))
 ·refine aL (gg λ_ t=>?_) λt=>?_
  ·refine aL rfl λy=>aL rfl λx=>aL rfl λt=>?_
   rfl
  ·obtain⟨z,t⟩:=t
   cases z with
   |some z=>rfl
   |none=>
    refine aL rfl λ_=>aL (gg λ_ u=>dE ?_ ?_) λu=>?_
    ·rfl
    ·rfl
    ·obtain⟨z,u⟩:=u
     cases z<;>rfl
 ·obtain⟨z,s⟩:=s
  cases z<;>rfl
section
variable {prog:KP}{w:KS}{A:KR}{E:KF}{J:Shared->Prop}{a₀:Array Keyed}{kd:SortKind}{r:Keyed->Nat}{a b:PA}
abbrev AJ(r:Keyed->Nat):Keyed->Keyed->Prop:=λp q=>r q<=r p
theorem fZ{l:List Keyed}(h:l.Pairwise (ia r)):l.reverse.Pairwise (AJ r):=List.pairwise_reverse.mpr h
theorem Ba{α:Type}(a:Array α)(i:Nat):(a.extract 0 i).toList=a.toList.take i:=by
 rw[Array.toList_extract];simp[List.extract]
theorem xL{α:Type}(a:Array α){k i:Nat}(h:k<=i):(a.extract k i).reverse.toList=((a.toList.take i).drop k).reverse:=by
 rw[Array.toList_reverse,Array.toList_extract];simp only[List.extract];rw[<- List.drop_take]
theorem fM(a:PA)(s:a.toList.Pairwise (ia r)){i:Nat}(h0:0<i)(h:i<=a.toList.length) :
  ∃x,a[i-1]?=some x/\(a.toList.take i).reverse=x::(a.toList.take (i-1)).reverse/\x∈a.toList/\∀q,q∈a.toList.take i->r q<=r x:=by
 have e:a.toList.take i=a.toList.take (i-1)++[a.toList[i-1]]:=by
  have:=List.take_succ_eq_append_getElem (l:=a.toList) (i:=i-1) ⋯
  rwa [show i-1+1=i by omega]at this
 refine⟨a.toList[i-1],?_,by rw[e,Km];rfl,JT _,λq hq=>?_⟩
 ·rw[<- Array.getElem?_toList,JJ ⋯]
 ·have s':=s.sublist (List.take_sublist i _)
  rw[e]at s' hq;rcases JY.mp hq with hq | hq
  ·exact(List.pairwise_append.mp s').2.2 q hq _ (List.mem_singleton_self _)
  ·rw[JN.mp hq];exact J8 _
structure MH(prog:KP)(w:KS)(A:KR)(J:Shared->Prop)(a₀:PA)(kd:SortKind)(r:Keyed->Nat)(a b:PA):Prop where
 C:tH prog w A J a₀ kd r
 ha:∀p,p∈a.toList->p∈a₀.toList
 hb:∀p,p∈b.toList->p∈a₀.toList
 sa:a.toList.Pairwise (ia r)
 sb:b.toList.Pairwise (ia r)
 h0:∀y,b[0]?=some y->∀q,q∈a.toList->r y<=r q
abbrev uH(r:Keyed->Nat)(a b o:PA)(i j:Nat):Prop:=MI (AJ r) a.toList.reverse b.toList.reverse o.toList (a.toList.take i).reverse (b.toList.take j).reverse
structure jh(r:Keyed->Nat)(a b o:PA)(i j:Nat):Prop where
 mi:uH r a b o i j
 hi:0<i
 hi':i<=a.toList.length
 hj:1<j
 hj':j<=b.toList.length
def PH(r:Keyed->Nat)(a b:PA)(k:Nat)(z:Option PA)(i j:Nat)(o:PA):Prop:=match z with
 |some z=>iA r a b z
 |none=>jh r a b o i j/\k<=o.size
theorem jh.lt{o:PA}{i j:Nat}(h:jh r a b o i j):o.size<a.size+b.size:=by
 have:=h.mi.len;have h1:=h.hi;have h2:=h.hj;have h3:=h.hi';have h4:=h.hj'
 simp at this h3 h4;omega
theorem nK{z:PA}{l:List Keyed}(e:z.toList=l.reverse)(h:l.Pairwise (AJ r)/\l.Perm (a.toList.reverse++b.toList.reverse)):iA r a b z:=by
 unfold iA;rw[e]
 exact⟨List.pairwise_reverse.mpr h.1,(List.reverse_perm _).trans (h.2.trans ((List.reverse_perm _).append (List.reverse_perm _)))⟩
theorem Fu(m:MH prog w A J a₀ kd r a b){o:PA}{i j:Nat}(h:uH r a b o i j)(hj:i=0\/j=0):iA r a b (Ar a b i j o):=by
 rcases hj with rfl | rfl
 ·have h':MI (AJ r) a.toList.reverse b.toList.reverse o.toList [] (b.toList.take j).reverse:=h
  exact nK (by simp only[Ar,Array.toList_append,Ba,Array.toList_reverse,Km,Kn,List.take_zero,Kx]) (h'.finY (fZ m.sb))
 ·have h':MI (AJ r) a.toList.reverse b.toList.reverse o.toList (a.toList.take i).reverse []:=h
  exact nK (by simp only[Ar,Array.toList_append,Ba,Array.toList_reverse,Km,Kn,List.take_zero,Kg]) (h'.finX (fZ m.sa))
theorem F7(m:MH prog w A J a₀ kd r a b){o:PA}{i j:Nat}(h:uH r a b o i j)(hj:j=1)(hb:0<b.toList.length):iA r a b (Ff a b i j o):=by
 subst hj;obtain⟨y,e1,e2,e3,e4⟩:=fM b m.sb (i:=1) ⋯ ⋯;have e2':(b.toList.take 1).reverse=[y]:=by rw[e2];rfl
 have h':MI (AJ r) a.toList.reverse b.toList.reverse o.toList (a.toList.take i).reverse [y]:=by rw[<- e2'];exact h
 have e5:b.toList.take 1=[y]:=by have:=congrArg List.reverse e2';simpa using this
 refine nK (l:=o.toList++((a.toList.take i).reverse++[y])) ?_ ?_
 ·simp only[Ff,Array.toList_append,Ba,Array.toList_reverse,Km,Kn,e5,List.reverse_singleton,Kh]
 ·have:=h'.swap.lastX (fZ m.sa) λq hq=>m.h0 y e1 q (List.mem_of_mem_take (List.mem_reverse.mp hq))
  exact⟨this.1,this.2.trans List.perm_append_comm⟩
theorem Fs(m:MH prog w A J a₀ kd r a b){st:SortSt}(hk:kindOf st=kd){o:PA}{i j g u v:Nat}(h:jh r a b o i j) :
  eF (model prog w) A E J (B9 a b g i j o u v) (λt st'=>st'=st/\match t with
   | .done s=>PH r a b (o.size+1) s.1 s.2.1 s.2.2.1 s.2.2.2.1
   | .yield s=>s.1=none/\PH r a b (o.size+1) s.1 s.2.1 s.2.2.1 s.2.2.2.1) st:=by
 unfold B9;have h1:=h.hi;have h2:=h.hj;have h3:=h.hi';have h4:=h.hj'
 obtain⟨y,b1,b2,b3,b4⟩:=fM b m.sb (i:=j) ⋯ h4;obtain⟨x,a1,a2,a3,a4⟩:=fM a m.sa (i:=i) ⋯ h3;refine ao (b8 b1 (ao (b8 a1 (ao (BI m.C (m.hb _ b3) (m.ha _ a3) hk ?_)))));dsimp only;have mi:MI (AJ r) a.toList.reverse b.toList.reverse o.toList (a.toList.take i).reverse (b.toList.take j).reverse:=h.mi
 by_cases hw:r y<r x
 ·rw[if_pos (decide_eq_true hw)]
  refine ao (b8 a1 ?_);rw[a2]at mi;have mi':uH r a b (o.push x) (i-1) j:=by
   unfold uH;rw[Array.toList_push]
   exact mi.oneX (fZ m.sa) λq hq=>by have:=b4 q (List.mem_reverse.mp hq);show r q<=r x;omega
  by_cases hc:(i-1==0)=true
  ·rw[if_pos hc];exact ay ⟨rfl,Fu m mi' (.inl (eq_of_beq hc))⟩
  ·rw[if_neg hc]
   have iv:jh r a b (o.push x) (i-1) j:=⟨mi',by have:=cA hc;omega,⋯,h2,h4⟩
   split
   ·exact ay ⟨rfl,iv,by simp⟩
   ·exact ay ⟨rfl,rfl,iv,by simp⟩
 ·rw[if_neg (by simpa using hw)]
  refine ao (b8 b1 ?_);rw[b2]at mi;have mi':uH r a b (o.push y) i (j-1):=by
   unfold uH;rw[Array.toList_push]
   exact mi.oneY (fZ m.sb) λq hq=>by have:=a4 q (List.mem_reverse.mp hq);show r q<=r y;omega
  by_cases hc:(j-1==1)=true
  ·rw[if_pos hc];exact ay ⟨rfl,F7 m mi' (eq_of_beq hc) ⋯⟩
  ·rw[if_neg hc]
   have iv:jh r a b (o.push y) i (j-1):=⟨mi',h1,h3,by have:=cA hc;omega,⋯⟩
   split
   ·exact ay ⟨rfl,iv,by simp⟩
   ·exact ay ⟨rfl,rfl,iv,by simp⟩
theorem DK(m:MH prog w A J a₀ kd r a b){st:SortSt}{o:PA}{i j g u v k:Nat}(h:jh r a b o i j)(hk:k<=o.size)(hx:∀x,a[i-1]?=some x->∀q,q∈b.toList.take j->r q<=r x) :
  eF (model prog w) A E J (Go a b i j o g u v) (λt st'=>st'=st/\match t with
   | .done s=>PH r a b (k+1) s.1 s.2.1 s.2.2.1 s.2.2.2.1
   | .yield s=>s.1=none/\PH r a b (k+1) s.1 s.2.1 s.2.2.1 s.2.2.2.1) st:=by
 unfold Go;have h1:=h.hi;have h2:=h.hj;have h3:=h.hi';have h4:=h.hj'
 obtain⟨x,a1,a2,a3,a4⟩:=fM a m.sa (i:=i) ⋯ h3;refine ao (b8 a1 ?_);have mi:MI (AJ r) a.toList.reverse b.toList.reverse o.toList (a.toList.take i).reverse (b.toList.take j).reverse:=h.mi;rw[a2]at mi;have mi':uH r a b (o.push x) (i-1) j:=by
  unfold uH;rw[Array.toList_push];exact mi.oneX (fZ m.sa) λq hq=>hx x a1 q (List.mem_reverse.mp hq)
 by_cases hc:(i-1==0)=true
 ·rw[if_pos hc];exact ay ⟨rfl,Fu m mi' (.inl (eq_of_beq hc))⟩
 ·rw[if_neg hc]
  have iv:jh r a b (o.push x) (i-1) j:=⟨mi',by have:=cA hc;omega,⋯,h2,h4⟩
  split
  ·exact ay ⟨rfl,iv,by simp;omega⟩
  ·exact ay ⟨rfl,rfl,iv,by simp;omega⟩
theorem pY(l:List Keyed){k i:Nat}(h:k<=i):(l.take i).reverse=((l.take i).drop k).reverse++(l.take k).reverse:=by
 rw[<- Km];have:=List.take_append_drop k (l.take i);rw[List.take_take,KC h]at this;rw[this]
theorem DT(m:MH prog w A J a₀ kd r a b){st:SortSt}(hk:kindOf st=kd){o:PA}{i j g u v k:Nat}(h:jh r a b o i j)(hz:k<=o.size)(hy:∀y,b[j-1]?=some y->∀q,q∈a.toList.take i->r q<=r y) :
  eF (model prog w) A E J (Gn a b i j o g u v) (λt st'=>st'=st/\match t with
   | .done s=>PH r a b (k+1) s.1 s.2.1 s.2.2.1 s.2.2.2.1
   | .yield s=>s.1=none/\PH r a b (k+1) s.1 s.2.1 s.2.2.1 s.2.2.2.1) st:=by
 unfold Gn;have h1:=h.hi;have h2:=h.hj;have h3:=h.hi';have h4:=h.hj'
 obtain⟨y,b1,b2,b3,b4⟩:=fM b m.sb (i:=j) ⋯ h4;obtain⟨x,a1,a2,a3,a4⟩:=fM a m.sa (i:=i) ⋯ h3;refine ao (b8 b1 ?_);have mi:MI (AJ r) a.toList.reverse b.toList.reverse o.toList (a.toList.take i).reverse (b.toList.take j).reverse:=h.mi;rw[b2]at mi;have mi':uH r a b (o.push y) i (j-1):=by
  unfold uH;rw[Array.toList_push];exact mi.oneY (fZ m.sb) λq hq=>hy y b1 q (List.mem_reverse.mp hq)
 by_cases hc:(j-1==1)=true
 ·rw[if_pos hc];exact ay ⟨rfl,F7 m mi' (eq_of_beq hc) ⋯⟩
 ·rw[if_neg hc]
  have hc':=cA hc;refine ao (b8 a1 (ao (p9 m.C hk (m.ha _ a3) ⋯ ⋯ (by rw[KD];exact λp hp=>m.hb p (List.mem_of_mem_take hp)) (by rw[KD];exact m.sb.sublist (List.take_sublist _ _)) λe he f1 f2=>?_)));rw[KD]at f1 f2;dsimp only;have g1:∀p,p∈((b.toList.take (j-1)).drop e).reverse->∀q,q∈(a.toList.take i).reverse->r q<=r p:=λp hp q hq=>by
   have q1:r x<=r p:=kH (f2 p (List.mem_reverse.mp hp));have:=a4 q (List.mem_reverse.mp hq);omega
  have g2:∀q,q∈b.toList.take e->r q<=r x:=λq hq=>by
   have q1:r q<r x:=f1 q (by rw[List.take_take,KC he];exact hq);omega
  by_cases he0:j-1-e>0
  ·rw[if_pos he0]
   have mi2:uH r a b (o.push y++(b.extract e (j-1)).reverse) i e:=by
    unfold uH at mi' ⊢;rw[Array.toList_append,xL b he];rw[pY b.toList he]at mi';exact mi'.takeY (fZ m.sb) g1
   by_cases hc2:(e==1)=true
   ·rw[if_pos hc2];exact ay ⟨rfl,F7 m mi2 (eq_of_beq hc2) ⋯⟩
   ·rw[if_neg hc2]
    by_cases hc3:(e==0)=true
    ·rw[if_pos hc3];exact ay ⟨rfl,Fu m mi2 (.inr (eq_of_beq hc3))⟩
    ·rw[if_neg hc3]
     exact DK m ⟨mi2,h1,h3,by have:=cA hc2;have:=cA hc3;omega,⋯⟩ (by simp;omega) λx' e' q hq=>by rw[a1]at e';cases e';exact g2 q hq
  ·rw[if_neg he0]
   have e0:e=j-1:=by omega
   subst e0;exact DK m ⟨mi',h1,h3,⋯,⋯⟩ (by simp;omega) λx' e' q hq=>by rw[a1]at e';cases e';exact g2 q hq
theorem FD(m:MH prog w A J a₀ kd r a b){st:SortSt}(hk:kindOf st=kd){o:PA}{i j g u v:Nat}(h:jh r a b o i j) :
  eF (model prog w) A E J (pr a b i j o g u v) (λt st'=>SG st st'/\match t with
   | .done s=>PH r a b (o.size+1) s.1 s.2.1 s.2.2.1 s.2.2.2.1
   | .yield s=>s.1=none/\PH r a b (o.size+1) s.1 s.2.1 s.2.2.1 s.2.2.2.1) st:=by
 unfold pr;refine ao (mV λst' hg=>?_);have hk':kindOf st'=kd:=hg.1.trans hk;have h1:=h.hi;have h2:=h.hj;have h3:=h.hi';have h4:=h.hj'
 obtain⟨y,b1,b2,b3,b4⟩:=fM b m.sb (i:=j) ⋯ h4;refine ao (b8 b1 (ao (p9 m.C hk' (m.hb _ b3) ⋯ ⋯ (by rw[KD];exact λp hp=>m.ha p (List.mem_of_mem_take hp)) (by rw[KD];exact m.sa.sublist (List.take_sublist _ _)) λe he f1 f2=>?_)));rw[KD]at f1 f2;dsimp only;have g1:∀p,p∈((a.toList.take i).drop e).reverse->∀q,q∈(b.toList.take j).reverse->r q<=r p:=λp hp q hq=>by
  have q1:r y<r p:=kH (f2 p (List.mem_reverse.mp hp));have:=b4 q (List.mem_reverse.mp hq);omega
 have g2:∀q,q∈a.toList.take e->r q<=r y:=λq hq=>f1 q (by rw[List.take_take,KC he];exact hq)
 by_cases he0:i-e>0
 ·rw[if_pos he0]
  have mi2:uH r a b (o++(a.extract e i).reverse) e j:=by
   have mi:=h.mi;unfold uH at mi ⊢;rw[Array.toList_append,xL a he];rw[pY a.toList he]at mi;exact mi.takeX (fZ m.sa) g1
  by_cases hc:(e==0)=true
  ·rw[if_pos hc];exact ay ⟨hg,Fu m mi2 (.inl (eq_of_beq hc))⟩
  ·rw[if_neg hc]
   exact bz (DT (k:=o.size) m hk' ⟨mi2,by have:=cA hc;omega,⋯,h2,h4⟩ (by simp) λy' e' q hq=>by rw[b1]at e';cases e';exact g2 q hq) λt s2 q=>⟨by rw[q.1];exact hg,q.2⟩
 ·rw[if_neg he0]
  have e0:e=i:=by omega
  subst e0;exact bz (DT (k:=o.size) m hk' h (J8 _) λy' e' q hq=>by rw[b1]at e';cases e';exact g2 q hq) λt s2 q=>⟨by rw[q.1];exact hg,q.2⟩
theorem Fr(m:MH prog w A J a₀ kd r a b){st:SortSt}(hk:kindOf st=kd){s:H0}(h:jh r a b s.2.2.2.1 s.2.1 s.2.2.1) :
  eF (model prog w) A E J (Gy a b s) (λt st'=>SG st st'/\match t with
   | .done u=>∃z,u.1=some z/\iA r a b z
   | .yield u=>u.1=none/\jh r a b u.2.2.2.1 u.2.1 u.2.2.1/\s.2.2.2.1.size+1<=u.2.2.2.1.size) st:=by
 unfold Gy;refine ao (bz (dZ (I:=λx c st'=>st'=st/\c.1=none/\jh r a b c.2.2.2.1 c.2.1 c.2.2.1/\s.2.2.2.1.size+x<=c.2.2.2.1.size)
  (Q:=λc st'=>st'=st/\PH r a b (s.2.2.2.1.size+1) c.1 c.2.1 c.2.2.1 c.2.2.2.1) ?s1 ?e1 ⟨rfl,rfl,h,J8 _⟩) ?p1)
 case e1=>
  rintro c st' ⟨rfl,c1,iv,hx⟩;have:=iv.lt;omega
 case s1=>
  rintro x c st' _ hx ⟨rfl,c1,iv,hz⟩;refine bz (Fs m hk iv) λt st2 q=>?_;obtain⟨rfl,q⟩:=q;cases t with
  |done u=>
   refine⟨rfl,?_⟩;dsimp only at q
   revert q;unfold PH;cases u.1 with
   |some z=>exact id
   |none=>exact λq=>⟨q.1,by have:=q.2;omega⟩
  |yield u=>
   obtain⟨q1,q2⟩:=q;rw[q1]at q2;exact⟨rfl,q1,q2.1,by have:=q2.2;omega⟩
 case p1=>
  rintro⟨z,i,j,o,u,v⟩ st' ⟨rfl,q⟩;cases z with
  |some z=>exact ay ⟨SG.refl _,z,rfl,q⟩
  |none=>
   obtain⟨iv,hz⟩:=q;dsimp only;refine ao (jX λ_ jj=>wpAny_rule ⟨jj,?_⟩);refine ao (bz (dZ (I:=λx c st2=>SG st' st2/\c.1=none/\jh r a b c.2.2.2.1 c.2.1 c.2.2.1/\s.2.2.2.1.size+1<=c.2.2.2.1.size)
    (Q:=λc st2=>SG st' st2/\PH r a b (s.2.2.2.1.size+1) c.1 c.2.1 c.2.2.1 c.2.2.2.1) ?s2 ?e2 ⟨SG.refl _,rfl,iv,hz⟩) ?p2)
   case e2=>
    rintro c st2 ⟨hg,c1,iv,hx⟩;exact⟨hg,by rw[c1];exact⟨iv,hx⟩⟩
   case s2=>
    rintro x c st2 _ hx ⟨hg,c1,iv,hz⟩;have key:∀g,eF (model prog w) A E J (pr a b c.2.1 c.2.2.1 c.2.2.2.1 g c.2.2.2.2.2.1 c.2.2.2.2.2.2) (λt st3=>match t with
      | .done c'=>SG st' st3/\PH r a b (s.2.2.2.1.size+1) c'.1 c'.2.1 c'.2.2.1 c'.2.2.2.1
      | .yield c'=>SG st' st3/\c'.1=none/\jh r a b c'.2.2.2.1 c'.2.1 c'.2.2.1/\s.2.2.2.1.size+1<=c'.2.2.2.1.size) st2:=by
     intro g;refine bz (FD m (hg.1.trans hk) iv) λt st3 q=>?_;obtain⟨hg2,q⟩:=q;cases t with
     |done u=>
      refine⟨hg.trans hg2,?_⟩;dsimp only at q
      revert q;unfold PH;cases u.1 with
      |some z=>exact id
      |none=>exact λq=>⟨q.1,by have:=q.2;omega⟩
     |yield u=>
      obtain⟨q1,q2⟩:=q;rw[q1]at q2;exact⟨hg.trans hg2,q1,q2.1,by have:=q2.2;omega⟩
    split
    ·exact bz (key _) λt st3 q=>by cases t<;>exact q
    ·exact bz (key _) λt st3 q=>by cases t<;>exact q
   case p2=>
    rintro⟨z,i2,j2,o2,g2,u2,v2⟩ st2 ⟨hg,q⟩;cases z with
    |some z=>exact ay ⟨hg,z,rfl,q⟩
    |none=>exact ao (mV λst3 hg2=>ay ⟨hg.trans hg2,rfl,q.1,q.2⟩)
theorem yo(m:MH prog w A J a₀ kd r a b){st:SortSt}(hk:kindOf st=kd){Q:PA->SortSt->Prop}(hl:∀x,a[a.size-1]?=some x->∀q,q∈b.toList->r q<=r x)
  (na:0<a.toList.length) (nb:0<b.toList.length) (h:∀l st',SG st st'->iA r a b l->Q l st'):eF (model prog w) A E J (vi a b) Q st:=by
 rw[wM];unfold DG
 obtain⟨x,a1,a2,a3,a4⟩:=fM a m.sa (i:=a.toList.length) na (J8 _);have ez:a.toList.length=a.size:=by simp
 have ezb:b.toList.length=b.size:=by simp
 rw[ez]at a1 a2;refine ao (jX λs j=>wpAny_rule ⟨j,ao (b8 a1 ?_)⟩);have mi:uH r a b #[x] (a.size-1) b.size:=by
  have h1:=MI.start (le:=AJ r) a.toList.reverse b.toList.reverse;have e1:a.toList.reverse=x::(a.toList.take (a.size-1)).reverse:=by rw[<- a2,<- ez,Kj]
  have h2:MI (AJ r) a.toList.reverse b.toList.reverse [] (x::(a.toList.take (a.size-1)).reverse) b.toList.reverse:=by rw[<- e1];exact h1
  have h3:=h2.oneX (fZ m.sa) λq hq=>hl x a1 q (List.mem_reverse.mp hq);unfold uH;rw[show b.toList.take b.size=b.toList by rw[<- ezb,Kj]];exact h3
 by_cases hc:(a.size-1==0)=true
 ·rw[if_pos hc];exact ay (h _ _ (SG.refl _) (Fu m mi (.inl (eq_of_beq hc))))
 ·rw[if_neg hc]
  by_cases hc2:(b.size==1)=true
  ·rw[if_pos hc2];exact ay (h _ _ (SG.refl _) (F7 m mi (eq_of_beq hc2) nb))
  ·rw[if_neg hc2]
   refine ao (gt ?_);refine ao (bz (dZ (I:=λx c st'=>SG st st'/\c.1=none/\jh r a b c.2.2.2.1 c.2.1 c.2.2.1/\x+1<=c.2.2.2.1.size)
    (Q:=λc st'=>SG st st'/\∃z,c.1=some z/\iA r a b z) ?s ?e ⟨SG.refl _,rfl,⟨mi,by have:=cA hc;show 0<a.size-1;omega,by show a.size-1<=_;omega,by have:=cA hc2;show 1<b.size;omega,by show b.size<=_;omega⟩,by simp⟩) ?p)
   case e=>
    rintro c st' ⟨_,c1,iv,hx⟩;have:=iv.lt;omega
   case s=>
    rintro x c st' _ hx ⟨hg,c1,iv,hz⟩;refine bz (Fr m (hg.1.trans hk) iv) λt st2 q=>?_;obtain⟨hg2,q⟩:=q;cases t with
    |done u=>exact⟨hg.trans hg2,q⟩
    |yield u=>exact⟨hg.trans hg2,q.1,q.2.1,by have:=q.2.2;omega⟩
   case p=>
    rintro⟨z,u⟩ st' ⟨hg,z',e,q⟩;dsimp only at e;subst e;exact ay (h _ _ hg q)
end
section
variable {prog:KP}{w:KS}{A:KR}{E:KF}{J:Shared->Prop}{a₀:Array Keyed}{kd:SortKind}{r:Keyed->Nat}
theorem xq(s:Nat):∀(l:List Keyed) (n:Nat) (arr:PA),s+n+l.length<=arr.toList.length ->
  ((l.zipIdx n).foldl (λa (x:Keyed×Nat)=>a.setIfInBounds (s+x.2) x.1) arr).toList=arr.toList.take (s+n)++l++arr.toList.drop (s+n+l.length)
 | [],n,arr,h=>by simp
 |p::l,n,arr,h=>by
  rw[List.zipIdx_cons,List.foldl_cons,xq s l (n+1) _ (by simp at h ⊢;omega),Array.toList_setIfInBounds];dsimp only;have hlt:s+n<arr.toList.length:=by simp at h ⊢;omega
  have e1:(arr.toList.set (s+n) p).take (s+(n+1))=arr.toList.take (s+n)++[p]:=by
   rw[show s+(n+1)=(s+n)+1 by omega,List.take_succ_eq_append_getElem (by simpa using hlt),List.take_set_of_le (J8 _),List.getElem_set_self]
  have e2:(arr.toList.set (s+n) p).drop (s+(n+1)+l.length)=arr.toList.drop (s+n+(p::l).length):=by
   rw[List.drop_set_of_lt ⋯];congr 1;simp;omega
  rw[e1,e2];simp
structure SB(a₀:PA)(kd:SortKind)(st:SortSt):Prop where
 perm:(arrOf st).toList.Perm a₀.toList
 kind:kindOf st=kd
 failed:failedOf st=none
theorem qB{l u x v:List Keyed}(e:l=u++(x++v)):(l.drop u.length).take x.length=x:=by
 rw[e,List.drop_left,List.take_left]
theorem zE{st:SortSt}{Q:Bool->SortSt->Prop}(C:tH prog w A J a₀ kd r)(B:SB a₀ kd st){p1 p2:List (Nat×Nat×Nat)}{pw pw':Nat}{u x y v:List Keyed}
  (hp:(pendingOf st).toList=p1++(u.length,x.length,pw)::(u.length+x.length,y.length,pw')::p2) (ha:(arrOf st).toList=u++(x++(y++v)))
  (hx:x≠[]) (hy:y≠[]) (sx:x.Pairwise (ia r)) (sy:y.Pairwise (ia r))
  (h:∀st' z,SB a₀ kd st'->(pendingOf st').toList=p1++(u.length,x.length+y.length,pw)::p2->(arrOf st').toList=u++(z++v)->z.Perm (x++y)->z.Pairwise (ia r)->Q true st') :
  eF (model prog w) A E J (mergeAt' p1.length) Q st:=by
 unfold mergeAt';refine ao (gt ?_);have e1:(pendingOf st)[p1.length]?=some (u.length,x.length,pw):=by rw[<- Array.getElem?_toList,hp];simp
 have e2:(pendingOf st)[p1.length+1]?=some (u.length+x.length,y.length,pw'):=by rw[<- Array.getElem?_toList,hp];simp
 have hL:u.length+x.length+y.length<=(arrOf st).toList.length:=by rw[ha];simp;omega
 have mem:∀p,p∈x++y->p∈a₀.toList:=λp hp'=>B.perm.mem_iff.mp (by
  rw[ha];rcases JY.mp hp' with q | q<;>simp[q])
 obtain⟨y0,ys,rfl⟩:∃y0 ys,y=y0::ys:=by cases y with | nil=>exact absurd rfl hy | cons p q=>exact⟨p,q,rfl⟩
 have ey:(arrOf st)[u.length+x.length]?=some y0:=by rw[<- Array.getElem?_toList,ha,J5 ⋯,J5 ⋯];simp
 have xl0:0<x.length:=List.length_pos_iff.mpr hx;have ex:(arrOf st)[u.length+x.length-1]?=some (x[x.length-1]'⋯):=by
  rw[<- Array.getElem?_toList,ha,J5 ⋯,J6 ⋯,JJ ⋯];congr 2;omega
 generalize hxl:(x[x.length-1]'⋯)=xl at ex;have mxl:xl∈x:=by rw[<- hxl];exact JT _
 have lst:∀p,p∈x->r p<=r xl:=λp hp'=>by
  obtain⟨t,ht,e⟩:=List.mem_iff_getElem.mp hp';rw[<- e,<- hxl];rcases Nat.lt_or_ge t (x.length-1) with q | q
  ·exact(List.pairwise_iff_getElem.mp sx) _ _ _ _ q
  ·have:t=x.length-1:=by omega
   subst this;exact J8 _
 have hd:∀q,q∈y0::ys->r y0<=r q:=λq hq=>by
  rcases J0.mp hq with rfl | hq
  ·exact J8 _
  ·exact(List.pairwise_cons.mp sy).1 q hq
 have sg1:((arrOf st).toList.drop u.length).take x.length=x:=qB ha;have sg2:((arrOf st).toList.drop (u.length+x.length)).take (y0::ys).length=y0::ys:=by
  have:=qB (l:=(arrOf st).toList) (u:=u++x) (x:=y0::ys) (v:=v) (by rw[ha];simp)
  rwa [J7]at this
 have pend:(((pendingOf st).setIfInBounds p1.length (u.length,x.length+(y0::ys).length,pw)).eraseIdxIfInBounds (p1.length+1)).toList=p1++(u.length,x.length+(y0::ys).length,pw)::p2:=by
  rw[Array.toList_eraseIdxIfInBounds,Array.toList_setIfInBounds,hp];simp[List.eraseIdx_append_of_length_le]
 have whole:∀st',SB a₀ kd st'->(pendingOf st').toList=p1++(u.length,x.length+(y0::ys).length,pw)::p2->arrOf st'=arrOf st->(∀p,p∈x->∀q,q∈y0::ys->r p<=r q)->Q true st':=λst' B' p' a' q=>
  h st' (x++(y0::ys)) B' p' (by rw[a',ha,Kh]) (List.Perm.refl _) (List.pairwise_append.mpr ⟨sx,sy,q⟩)
 dsimp only;rw[e1,e2];dsimp only;refine ao (FV ?_);refine ao (b8 ey (ao (p9 C B.kind (mem _ (by simp)) xl0 (by show u.length+x.length<=(arrOf st).toList.length;omega) (by rw[sg1];exact λp q=>mem p (List.mem_append_left _ q)) (by rw[sg1];exact sx) λk hk f1 f2=>?_)));rw[sg1]at f1 f2;dsimp only;have g1:∀p,p∈x.take k->r p<=r y0:=f1;have g2:∀p,p∈x.drop k->r y0<r p:=λp hp'=>kH (f2 p hp')
 by_cases hc:(x.length-k==0)=true
 ·rw[if_pos hc]
  have:x.take k=x:=List.take_of_length_le (by have:=eq_of_beq hc;omega);rw[this]at g1;exact ay (whole _ ⟨B.perm,B.kind,B.failed⟩ pend rfl λp hp' q hq=>Kd (g1 p hp') (hd q hq))
 ·rw[if_neg hc]
  have hc':=cA hc;refine ao (b8 (p:=xl) (by rw[show u.length+k+(x.length-k)-1=u.length+x.length-1 by omega];exact ex) (ao (p9 C B.kind (mem _ (List.mem_append_left _ mxl)) (by simp) (by simpa using hL) (by rw[sg2];exact λp q=>mem p (List.mem_append_right _ q)) (by rw[sg2];exact sy) λn hn f3 f4=>?_)));rw[sg2]at f3 f4;dsimp only;have g3:∀p,p∈(y0::ys).take n->r p<r xl:=f3;have g4:∀p,p∈(y0::ys).drop n->r xl<=r p:=λp hp'=>kH (f4 p hp')
  by_cases hn0:(n==0)=true
  ·rw[if_pos hn0]
   have e0:n=0:=eq_of_beq hn0;subst e0;exact ay (whole _ ⟨B.perm,B.kind,B.failed⟩ pend rfl λp hp' q hq=>Kd (lst p hp') (g4 q hq))
  ·rw[if_neg hn0]
   have hn0':=cA hn0;have ea:((arrOf st).extract (u.length+k) (u.length+x.length)).toList=x.drop k:=by
    rw[show u.length+x.length=(u.length+k)+(x.length-k) by omega,mS,<- List.drop_drop,<- List.drop_take,sg1]
   have eb:((arrOf st).extract (u.length+x.length) (u.length+x.length+n)).toList=(y0::ys).take n:=by
    rw[mS];have:=congrArg (List.take n) sg2
    rwa [List.take_take,KC hn]at this
   generalize(arrOf st).extract (u.length+k) (u.length+x.length)=aa at ea ⊢;generalize(arrOf st).extract (u.length+x.length) (u.length+x.length+n)=bb at eb ⊢;have la:aa.toList.length=x.length-k:=by rw[ea,Kl]
   have lb:bb.toList.length=n:=by rw[eb,Kk];omega
   have h0:∀y,bb[0]?=some y->∀q,q∈aa.toList->r y<=r q:=λy e q hq=>by
    rw[<- Array.getElem?_toList,eb]at e;have:y=y0:=by
     rw[List.getElem?_take,if_pos ⋯]at e;exact(Option.some.inj e).symm
    subst this;rw[ea]at hq;exact Nat.le_of_lt (g2 q hq)
   have hl:∀z,aa[aa.toList.length-1]?=some z->∀q,q∈bb.toList->r q<=r z:=λz e q hq=>by
    rw[<- Array.getElem?_toList,la,ea,List.getElem?_drop,show k+(x.length-k-1)=x.length-1 by omega,JJ ⋯,hxl]at e;cases e;rw[eb]at hq;exact Nat.le_of_lt (g3 q hq)
   have maa:∀p,p∈aa.toList->p∈a₀.toList:=λp hp'=>mem p (List.mem_append_left _ (List.mem_of_mem_drop (by rw[<- ea];exact hp')));have mbb:∀p,p∈bb.toList->p∈a₀.toList:=λp hp'=>mem p (List.mem_append_right _ (List.mem_of_mem_take (by rw[<- eb];exact hp')));have saa:aa.toList.Pairwise (ia r):=by rw[ea];exact sx.sublist (List.drop_sublist _ _)
   have sbb:bb.toList.Pairwise (ia r):=by rw[eb];exact sy.sublist (List.take_sublist _ _)
   have fin:∀(l:PA) (st':SortSt),kindOf st'=kd->arrOf st'=arrOf st->(pendingOf st').toList=p1++(u.length,x.length+(y0::ys).length,pw)::p2->failedOf st'=none->iA r aa bb l ->
     Q true (setArr st' (l.toList.zipIdx.foldl (λa (x:Keyed×Nat)=>a.setIfInBounds (u.length+k+x.2) x.1) (arrOf st'))):=by
    intro l st' k' a' p' f' good;have good2:=good.2;rw[ea,eb]at good2;have ll:=good2.length_eq;rw[J7,Kl,Kk,KC hn]at ll;have ez:(l.toList.zipIdx.foldl (λa (x:Keyed×Nat)=>a.setIfInBounds (u.length+k+x.2) x.1) (arrOf st')).toList=u++((x.take k++l.toList++(y0::ys).drop n)++v):=by
     rw[xq (u.length+k) l.toList 0 _ (by rw[a'];omega),a',ha,ll];rw[show u.length+k+0=u.length+k by omega,List.take_length_add_append,List.take_append_of_le_length hk,
      show u.length+k+(x.length-k+n)=u.length+(x.length+n) by omega,List.drop_length_add_append,List.drop_length_add_append,List.drop_append_of_le_length hn]
     simp only[Kh]
    have zp:(x.take k++l.toList++(y0::ys).drop n).Perm (x++(y0::ys)):=by
     refine((good2.append_left (x.take k)).append_right _).trans ?_;rw[<- Kh,List.take_append_drop,Kh,List.take_append_drop]
    refine h _ (x.take k++l.toList++(y0::ys).drop n) ⟨?_,k',f'⟩ p' ez zp ?_
    ·have pz:(u++((x.take k++l.toList++(y0::ys).drop n)++v)).Perm a₀.toList:=by
      refine List.Perm.trans ?_ (show((arrOf st).toList).Perm _ from B.perm);rw[ha];refine List.Perm.append_left u ?_;rw[<- Kh x];exact zp.append_right v
     rw[<- ez]at pz;exact pz
    ·have ml:∀p,p∈l.toList->p∈x.drop k\/p∈(y0::ys).take n:=λp hp'=>JY.mp (good2.mem_iff.mp hp')
     refine List.pairwise_append.mpr ⟨List.pairwise_append.mpr ⟨sx.sublist (List.take_sublist _ _),good.1,λp hp' q hq=>?_⟩,sy.sublist (List.drop_sublist _ _),λp hp' q hq=>?_⟩
     ·rcases ml q hq with q1 | q1
      ·exact Kd (g1 p hp') (Nat.le_of_lt (g2 q q1))
      ·exact Kd (g1 p hp') (hd q (List.mem_of_mem_take q1))
     ·rcases JY.mp hp' with q1 | q1
      ·exact Kd (lst p (List.mem_of_mem_take q1)) (g4 q hq)
      ·rcases ml p q1 with q2 | q2
       ·exact Kd (lst p (List.mem_of_mem_drop q2)) (g4 q hq)
       ·exact Kd (Nat.le_of_lt (g3 p q2)) (g4 q hq)
   split
   ·refine ao (yY (a:=aa) (b:=bb) ⟨C,maa,mbb,saa,sbb,hl⟩ (by exact B.kind) h0 ⋯ ⋯ λl st' hg good=>?_)
    refine ao (cT (ao (gt (ay ?_))));have f':failedOf st'=none:=hg.2.2.2.trans B.failed;have:=fin l st' (hg.1.trans B.kind) hg.2.1 (by rw[hg.2.2.1];exact pend) f' good;show Q (failedOf st').isNone _;rw[f'];exact this
   ·refine ao (yo (a:=aa) (b:=bb) ⟨C,maa,mbb,saa,sbb,h0⟩ (by exact B.kind) (by simpa using hl) ⋯ ⋯ λl st' hg good=>?_)
    refine ao (cT (ao (gt (ay ?_))));have f':failedOf st'=none:=hg.2.2.2.trans B.failed;have:=fin l st' (hg.1.trans B.kind) hg.2.1 (by rw[hg.2.2.1];exact pend) f' good;show Q (failedOf st').isNone _;rw[f'];exact this
end
abbrev As:=Option (Option Nat)×Nat
abbrev Ds:=Option (Option Nat)×Nat×Nat
def Fj(lo a n:Nat):SM As:=forIn [a:n] ((none,a):As) λ_ s=>ltAt' (lo+s.2) (lo+s.2-1) >>= λt=>match t with
 |some t=>if t=true then pure (.done (none,s.2)) else pure (.yield (none,s.2+1))
 |_=>pure (.done (some none,s.2))
def DO(lo m n:Nat):SM (Option Nat):=reverseSlice' lo (lo+m) >>= λ_=>Fj lo m n >>= λs=>match s.1 with
 |some z=>pure z
 |none=>pure (some s.2)
def Gb(lo m n:Nat):SM Ds:=forIn [m:n] ((none,m,0):Ds) λ_ s=>ltAt' (lo+s.2.1) (lo+s.2.1-1) >>= λt=>match t with
 |some t=>if t=true then
   if s.2.2>0 then reverseSlice' (lo+s.2.1-(s.2.2+1)) (lo+s.2.1) >>= λ_=>pure (.yield (none,s.2.1+1,0)) else pure (.yield (none,s.2.1+1,0))
  else ltAt' (lo+s.2.1-1) (lo+s.2.1) >>= λt=>match t with
   |some t=>if t=true then pure (.done (none,s.2.1,s.2.2)) else pure (.yield (none,s.2.1+1,s.2.2+1))
   |_=>pure (.done (some none,s.2.1,s.2.2))
 |_=>pure (.done (some none,s.2.1,s.2.2))
def Fi(lo m n:Nat):SM (Option Nat):=liftM (rule "list.sort.descending-run") >>= λ_=>Gb lo (m+1) n >>= λs=>match s.1 with
 |some z=>pure z
 |none=>if s.2.2>0 then reverseSlice' (lo+s.2.1-(s.2.2+1)) (lo+s.2.1) >>= λ_=>DO lo s.2.1 n else DO lo s.2.1 n
def Bx(lo n:Nat):SM (Option Nat):=Fj lo 1 n >>= λs=>match s.1 with
 |some z=>pure z
 |none=>if(s.2==n)=true then pure (some s.2) else if s.2>1 then ltAt' lo (lo+s.2-1) >>= λt=>match t with
   |some t=>if t=true then pure (some s.2) else reverseSlice' lo (lo+s.2) >>= λ_=>Fi lo s.2 n
   |_=>pure none
  else Fi lo s.2 n
theorem kQ{β:Type}{rg:Std.Legacy.Range}{c:β}{f g:Nat->β->SM (ForInStep β)}(h:∀x s,f x s=g x s):(forIn rg c f:SM β)=forIn rg c g:=by
 rw[show f=g from funext λx=>funext λs=>h x s]
theorem sS(lo m n:Nat){f:As->SM (Option Nat)}(h:∀s,f s=match s.1 with | some z=>pure z | none=>pure (some s.2)){F:Nat->As->SM (ForInStep As)}
  (hF:∀x s,F x s=(ltAt' (lo+s.2) (lo+s.2-1) >>= λt=>match t with
   |some t=>if t=true then pure (.done (none,s.2)) else pure (.yield (none,s.2+1))
   |_=>pure (.done (some none,s.2)))):(reverseSlice' lo (lo+m) >>= λ_=>(forIn [m:n] ((none,m):As) F:SM As) >>= f)=DO lo m n:=by
 unfold DO Fj;exact aL rfl λ_=>aL (kQ hF) h
theorem uD(lo n:Nat):countRun' lo n=Bx lo n:=by
 have c2:∀(m:Nat) {G:Ds->SM (Option Nat)} {F:Nat->Ds->SM (ForInStep Ds)},
   (∀s:Ds,G s=match s.1 with
    |some z=>pure z
    |none=>if s.2.2>0 then reverseSlice' (lo+s.2.1-(s.2.2+1)) (lo+s.2.1) >>= λ_=>DO lo s.2.1 n else DO lo s.2.1 n) ->
   (∀x s,F x s=(ltAt' (lo+s.2.1) (lo+s.2.1-1) >>= λt=>match t with
    |some t=>if t=true then
      if s.2.2>0 then reverseSlice' (lo+s.2.1-(s.2.2+1)) (lo+s.2.1) >>= λ_=>pure (.yield (none,s.2.1+1,0)) else pure (.yield (none,s.2.1+1,0))
     else ltAt' (lo+s.2.1-1) (lo+s.2.1) >>= λt=>match t with
      |some t=>if t=true then pure (.done (none,s.2.1,s.2.2)) else pure (.yield (none,s.2.1+1,s.2.2+1))
      |_=>pure (.done (some none,s.2.1,s.2.2))
    |_=>pure (.done (some none,s.2.1,s.2.2)))) ->
   ((liftM (rule "list.sort.descending-run"):SM Unit) >>= λ_=>(forIn [m+1:n] ((none,m+1,0):Ds) F:SM Ds) >>= G)=Fi lo m n:=by
  intro m G F hG hF;unfold Fi Gb;exact aL rfl λ_=>aL (kQ hF) hG
 unfold Bx Fj;refine aL (kQ λx s=>rfl) λs=>?_;obtain⟨z,m⟩:=s;cases z with
 |some z=>rfl
 |none=>
  refine dE rfl (dE (aL rfl λt=>?_) ?_)
  ·cases t with
   |none=>rfl
   |some t=>
    refine dE rfl (aL rfl λ_=>c2 m (λs=>?_) λx s=>rfl);obtain⟨z,m,q⟩:=s;cases z with
    |some z=>rfl
    |none=>exact dE (aL rfl λ_=>sS lo m n (λs=>by obtain⟨z,m⟩:=s;cases z<;>rfl) λx s=>rfl) (sS lo m n (λs=>by obtain⟨z,m⟩:=s;cases z<;>rfl) λx s=>rfl)
  ·refine c2 m (λs=>?_) λx s=>rfl
   obtain⟨z,m,q⟩:=s;cases z with
   |some z=>rfl
   |none=>exact dE (aL rfl λ_=>sS lo m n (λs=>by obtain⟨z,m⟩:=s;cases z<;>rfl) λx s=>rfl) (sS lo m n (λs=>by obtain⟨z,m⟩:=s;cases z<;>rfl) λx s=>rfl)
section
variable {prog:KP}{w:KS}{A:KR}{E:KF}{J:Shared->Prop}{a₀:Array Keyed}{kd:SortKind}{r:Keyed->Nat}
def Kr(r:Keyed->Nat)(xs:PA)(i:Nat):Nat:=match xs[i]? with
 |some p=>r p
 |none=>0
theorem uR{xs ys:PA}{i j:Nat}(h:xs[i]?=ys[j]?):Kr r xs i=Kr r ys j:=by unfold Kr;rw[h]
def Up(r:Keyed->Nat)(xs:PA)(lo n:Nat):Prop:=∀i j,i<=j->j<n->Kr r xs (lo+i)<=Kr r xs (lo+j)
def Dn(r:Keyed->Nat)(xs:PA)(lo n:Nat):Prop:=∀i j,i<=j->j<n->Kr r xs (lo+j)<=Kr r xs (lo+i)
structure KB(a₀:PA)(kd:SortKind)(lo:Nat)(st₀ st:SortSt):Prop where
 sb:SB a₀ kd st
 pe:pendingOf st=pendingOf st₀
 be:∀i,i<lo->(arrOf st)[i]?=(arrOf st₀)[i]?
theorem SB.size{st:SortSt}(h:SB a₀ kd st):(arrOf st).size=a₀.size:=by simpa using h.perm.length_eq
theorem KB.set{lo:Nat}{st₀ st:SortSt}(h:KB a₀ kd lo st₀ st){xs:PA}(hp:xs.Perm (arrOf st))(hb:∀i,i<lo->xs[i]?=(arrOf st)[i]?):KB a₀ kd lo st₀ (setArr st xs):=
 ⟨⟨(Array.perm_iff_toList_perm.mp hp).trans h.sb.perm,h.sb.kind,h.sb.failed⟩,h.pe,λi hi=>(hb i hi).trans (h.be i hi)⟩
theorem vn(C:tH prog w A J a₀ kd r){st:SortSt}(B:SB a₀ kd st){i j:Nat}(hi:i<a₀.size)(hj:j<a₀.size){Q:Option Bool->SortSt->Prop}
  (h:Q (some (decide (Kr r (arrOf st) i<Kr r (arrOf st) j))) st):eF (model prog w) A E J (ltAt' i j) Q st:=by
 have at':∀k,k<a₀.size->∃p,(arrOf st)[k]?=some p/\p∈a₀.toList:=λk hk=>by
  have hk':k<(arrOf st).size:=by rw[B.size];exact hk
  exact⟨(arrOf st)[k],getElem?_pos _ k hk',B.perm.mem_iff.mp (by simp)⟩
 obtain⟨p,e1,m1⟩:=at' i hi;obtain⟨q,e2,m2⟩:=at' j hj;rw[ltAt'_eq];refine ao (gt (ao (b8 e1 (ao (b8 e2 (BI C m1 m2 B.kind ?_))))));unfold Kr at h;rw[e1,e2]at h;exact h
theorem kP{xs:PA}{i j:Nat}(hj:j<=xs.size)(k:Nat):Kr r (mirror xs i j ((j-i)/2)) k=if i<=k/\k<j then Kr r xs (i+j-1-k) else Kr r xs k:=by
 have e:=getElem?_mirror_all (i:=i) hj k
 by_cases h1:i<=k/\k<j
 ·rw[if_pos h1]at e ⊢;exact uR e
 ·rw[if_neg h1]at e ⊢;exact uR e
theorem cP{xs:PA}{i j:Nat}(hj:j<=xs.size)(heq:∀k,i<=k->k<j->Kr r xs k=Kr r xs (j-1))(k:Nat):Kr r (mirror xs i j ((j-i)/2)) k=Kr r xs k:=by
 rw[kP hj]
 split
 ·rw[heq _ ⋯ ⋯,heq k ⋯ ⋯]
 ·rfl
theorem wV{lo i j:Nat}{st₀ st:SortSt}(B:KB a₀ kd lo st₀ st)(hi:lo<=i)(hj:j<=a₀.size){Q:Unit->SortSt->Prop}
  (h:KB a₀ kd lo st₀ (setArr st (mirror (arrOf st) i j ((j-i)/2)))->Q () (setArr st (mirror (arrOf st) i j ((j-i)/2)))):eF (model prog w) A E J (reverseSlice' i j) Q st:=by
 rw[reverseSlice'_eq];refine cT (h (B.set (mirror_perm _ _ _ _) λk hk=>?_));rw[getElem?_mirror_all (by rw[B.sb.size];exact hj),if_neg ⋯]
theorem DZ(C:tH prog w A J a₀ kd r){st:SortSt}(B:SB a₀ kd st){lo a n:Nat}{Q:As->SortSt->Prop}(hn:lo+n<=a₀.size)(ha:1<=a)(han:a<=n)(hs:Up r (arrOf st) lo a)
  (h:∀m,a<=m->m<=n->Up r (arrOf st) lo m->(m=n\/Kr r (arrOf st) (lo+m)<Kr r (arrOf st) (lo+m-1))->Q (none,m) st):eF (model prog w) A E J (Fj lo a n) Q st:=by
 unfold Fj;refine dZ (I:=λx c st'=>st'=st/\c=(none,x)/\Up r (arrOf st) lo x) ?s ?e ⟨rfl,rfl,hs⟩
 case e=>
  rintro c st' ⟨rfl,rfl,hs'⟩;rw[show max a n=n by omega]at hs' ⊢;exact h n han (J8 _) hs' (.inl rfl)
 case s=>
  rintro x c st' hax hxn ⟨rfl,rfl,hs'⟩;dsimp only;refine ao (vn C B ⋯ ⋯ ?_)
  by_cases hl:Kr r (arrOf st') (lo+x)<Kr r (arrOf st') (lo+x-1)
  ·simp only[hl,decide_true,if_true]
   exact ay (h x hax ⋯ hs' (.inr hl))
  ·simp only[hl,decide_false,Bool.false_eq_true,if_false]
   refine ay ⟨rfl,rfl,λi j hij hj=>?_⟩
   by_cases hjx:j<x
   ·exact hs' i j hij hjx
   ·have hj':j=x:=by omega
    subst hj'
    by_cases hi':i=j
    ·subst hi';exact J8 _
    ·have:=hs' i (j-1) ⋯ ⋯
     rw[show lo+(j-1)=lo+j-1 by omega]at this;omega
theorem DN(C:tH prog w A J a₀ kd r){st₀ st:SortSt}{lo m n:Nat}(B:KB a₀ kd lo st₀ st){Q:Option Nat->SortSt->Prop}(hn:lo+n<=a₀.size)(h1:1<=m)(hm:m<=n)(hs:Dn r (arrOf st) lo m)
  (h:∀k st',KB a₀ kd lo st₀ st'->1<=k->k<=n->Up r (arrOf st') lo k->Q (some k) st'):eF (model prog w) A E J (DO lo m n) Q st:=by
 unfold DO;have hz:lo+m<=(arrOf st).size:=by rw[B.sb.size];omega
 refine ao (wV B (J8 _) ⋯ λB'=>?_);refine ao (DZ C B'.sb hn h1 hm (λi j hij hj=>?_) λk k1 k2 k3 _=>ay (h k _ B' ⋯ k2 k3));show Kr r (mirror (arrOf st) lo (lo+m) ((lo+m-lo)/2)) (lo+i)<=Kr r (mirror (arrOf st) lo (lo+m) ((lo+m-lo)/2)) (lo+j);rw[kP hz,kP hz,if_pos ⋯,if_pos ⋯];have:=hs (m-1-j) (m-1-i) ⋯ ⋯;rw[show lo+(lo+m)-1-(lo+i)=lo+(m-1-i) by omega,show lo+(lo+m)-1-(lo+j)=lo+(m-1-j) by omega];exact this
theorem Fy(C:tH prog w A J a₀ kd r){st₀ st:SortSt}{lo m n:Nat}(B:KB a₀ kd lo st₀ st){Q:Ds->SortSt->Prop}(hn:lo+n<=a₀.size)(h1:1<=m)(hm:m<=n)(hs:Dn r (arrOf st) lo m)
  (h:∀k q st',KB a₀ kd lo st₀ st'->m<=k->k<=n->Dn r (arrOf st') lo k->q+1<=k->(∀i,k-(q+1)<=i->i<k->Kr r (arrOf st') (lo+i)=Kr r (arrOf st') (lo+k-1))->Q (none,k,q) st') :
  eF (model prog w) A E J (Gb lo m n) Q st:=by
 unfold Gb;refine dZ (I:=λx c st'=>∃q,c=(none,x,q)/\KB a₀ kd lo st₀ st'/\Dn r (arrOf st') lo x/\q+1<=x/\(∀i,x-(q+1)<=i->i<x->Kr r (arrOf st') (lo+i)=Kr r (arrOf st') (lo+x-1))) ?s ?e
  ⟨0,rfl,B,hs,⋯,λi h1 h2=>by congr 1;omega⟩
 case e=>
  rintro c st' ⟨q,rfl,B',hs',hq,he⟩;rw[show max m n=n by omega]at hs' hq he ⊢;exact h n q st' B' hm (J8 _) hs' hq he
 case s=>
  rintro x c st' hax hxn ⟨q,rfl,B',hs',hq,he⟩;dsimp only;have hz:lo+x<=(arrOf st').size:=by rw[B'.sb.size];omega
  have he':∀k,lo+x-(q+1)<=k->k<lo+x->Kr r (arrOf st') k=Kr r (arrOf st') (lo+x-1):=λk k1 k2=>by
   have:=he (k-lo) ⋯ ⋯
   rwa [show lo+(k-lo)=k by omega]at this
  have add1:∀{xs:PA},(∀k,Kr r xs k=Kr r (arrOf st') k)->Kr r (arrOf st') (lo+x)<=Kr r (arrOf st') (lo+x-1)->Dn r xs lo (x+1):=by
   intro xs hk hle i j hij hj;rw[hk,hk]
   by_cases hjx:j<x
   ·exact hs' i j hij hjx
   ·have hj':j=x:=by omega
    subst hj'
    by_cases hi':i=j
    ·subst hi';exact J8 _
    ·have:=hs' i (j-1) ⋯ ⋯
     rw[show lo+(j-1)=lo+j-1 by omega]at this;omega
  refine ao (vn C B'.sb ⋯ ⋯ ?_)
  by_cases hl:Kr r (arrOf st') (lo+x)<Kr r (arrOf st') (lo+x-1)
  ·simp only[hl,decide_true,if_true]
   by_cases hq0:q>0
   ·rw[if_pos hq0]
    refine ao (wV B' ⋯ ⋯ λB2=>ay ⟨0,rfl,B2,add1 (cP hz he') (Nat.le_of_lt hl),⋯,λi h1 h2=>by congr 1;omega⟩)
   ·rw[if_neg hq0]
    exact ay ⟨0,rfl,B',add1 (λ_=>rfl) (Nat.le_of_lt hl),⋯,λi h1 h2=>by congr 1;omega⟩
  ·simp only[hl,decide_false,Bool.false_eq_true,if_false]
   refine ao (vn C B'.sb ⋯ ⋯ ?_)
   by_cases hg:Kr r (arrOf st') (lo+x-1)<Kr r (arrOf st') (lo+x)
   ·simp only[hg,decide_true,if_true]
    exact ay (h x q st' B' hax ⋯ hs' hq he)
   ·simp only[hg,decide_false,Bool.false_eq_true,if_false]
    have hx:Kr r (arrOf st') (lo+x)=Kr r (arrOf st') (lo+x-1):=by omega
    refine ay ⟨q+1,rfl,B',add1 (λ_=>rfl) ⋯,⋯,λi h1 h2=>?_⟩;rw[show lo+(x+1)-1=lo+x by omega]
    by_cases hix:i=x
    ·subst hix;rfl
    ·rw[hx];exact he i ⋯ ⋯
theorem DX(C:tH prog w A J a₀ kd r){st₀ st:SortSt}{lo m n:Nat}(B:KB a₀ kd lo st₀ st){Q:Option Nat->SortSt->Prop}(hn:lo+n<=a₀.size)(hm:m+1<=n)(hs:Dn r (arrOf st) lo (m+1))
  (h:∀k st',KB a₀ kd lo st₀ st'->1<=k->k<=n->Up r (arrOf st') lo k->Q (some k) st'):eF (model prog w) A E J (Fi lo m n) Q st:=by
 unfold Fi;refine ao (jX λs j=>wpAny_rule ⟨j,?_⟩);refine ao (Fy C B hn ⋯ hm hs λk q st' B' k1 k2 hs' hq he=>?_);dsimp only;have hz:lo+k<=(arrOf st').size:=by rw[B'.sb.size];omega
 by_cases hq0:q>0
 ·rw[if_pos hq0]
  refine ao (wV B' ⋯ ⋯ λB2=>DN C B2 hn ⋯ k2 (λi j hij hj=>?_) h);have he':∀t,lo+k-(q+1)<=t->t<lo+k->Kr r (arrOf st') t=Kr r (arrOf st') (lo+k-1):=λt k1 k2=>by
   have:=he (t-lo) ⋯ ⋯
   rwa [show lo+(t-lo)=t by omega]at this
  show Kr r (mirror (arrOf st') _ _ _) _<=Kr r (mirror (arrOf st') _ _ _) _;rw[cP hz he',cP hz he'];exact hs' i j hij hj
 ·rw[if_neg hq0]
  exact DN C B' hn ⋯ k2 hs' h
theorem vR(C:tH prog w A J a₀ kd r){st:SortSt}{lo n:Nat}(B:SB a₀ kd st){Q:Option Nat->SortSt->Prop}(hn:lo+n<=a₀.size)(h1:1<=n)
  (h:∀k st',KB a₀ kd lo st st'->1<=k->k<=n->Up r (arrOf st') lo k->Q (some k) st'):eF (model prog w) A E J (countRun' lo n) Q st:=by
 rw[uD];unfold Bx
 have B0:KB a₀ kd lo st st:=⟨B,rfl,λ_ _=>rfl⟩;refine ao (DZ C B hn (J8 1) h1 (λi j hij hj=>by
  have:i=j:=by omega
  subst this;exact J8 _) λm m1 m2 hm hor=>?_)
 dsimp only
 by_cases hc:m=n
 ·rw[if_pos (by rw[hc];exact beq_self_eq_true n)]
  exact ay (h m st B0 m1 m2 hm)
 ·rw[if_neg (by simpa using hc)]
  have hlt:=hor.resolve_left hc
  by_cases hg:m>1
  ·rw[if_pos hg]
   refine ao (vn C B ⋯ ⋯ ?_)
   by_cases hr:Kr r (arrOf st) lo<Kr r (arrOf st) (lo+m-1)
   ·simp only[hr,decide_true,if_true]
    exact ay (h m st B0 m1 m2 hm)
   ·simp only[hr,decide_false,Bool.false_eq_true,if_false]
    have hz:lo+m<=(arrOf st).size:=by rw[B.size];omega
    have all:∀k,lo<=k->k<lo+m->Kr r (arrOf st) k=Kr r (arrOf st) (lo+m-1):=λk k1 k2=>by
     have a1:=hm 0 (k-lo) ⋯ ⋯;have a2:=hm (k-lo) (m-1) ⋯ ⋯;rw[show lo+(k-lo)=k by omega]at a1 a2;rw[show lo+(m-1)=lo+m-1 by omega]at a2;rw[show lo+0=lo by omega]at a1;omega
    refine ao (wV B0 (J8 _) ⋯ λB2=>DX C B2 hn ⋯ (λi j hij hj=>?_) h);show Kr r (mirror (arrOf st) _ _ _) _<=Kr r (mirror (arrOf st) _ _ _) _;rw[cP hz all,cP hz all]
    by_cases hjn:j<m
    ·rw[all (lo+i) ⋯ ⋯,all (lo+j) ⋯ ⋯];exact J8 _
    ·have hj':j=m:=by omega
     subst hj'
     by_cases hi':i=j
     ·subst hi';exact J8 _
     ·rw[all (lo+i) ⋯ ⋯];exact Nat.le_of_lt hlt
  ·rw[if_neg hg]
   have e1:m=1:=by omega
   subst e1;refine DX C B0 hn ⋯ (λi j hij hj=>?_) h
   by_cases hi':i=j
   ·subst hi';exact J8 _
   ·have hi0:i=0:=by omega
    have hj1:j=1:=by omega
    subst hi0;subst hj1
    exact Nat.le_of_lt hlt
theorem qc{xs:PA}{src d:Nat}(hs:src<xs.size)(hd:d<=src)(k:Nat) :
  Kr r (bubble xs src d) k=if k=src-d then Kr r xs src else if src-d<k/\k<=src then Kr r xs (k-1) else Kr r xs k:=by
 have e:=getElem?_bubble hs d hd k
 by_cases h1:k=src-d
 ·rw[if_pos h1]at e ⊢;exact uR e
 ·rw[if_neg h1]at e ⊢
  by_cases h2:src-d<k/\k<=src
  ·rw[if_pos h2]at e ⊢;exact uR e
  ·rw[if_neg h2]at e ⊢;exact uR e
theorem F0(C:tH prog w A J a₀ kd r){st₀ st:SortSt}{lo n ok:Nat}(B:KB a₀ kd lo st₀ st){Q:Bool->SortSt->Prop}(hn:lo+n<=a₀.size)(hok:ok<=n)(hs:Up r (arrOf st) lo ok)
  (h:∀st',KB a₀ kd lo st₀ st'->Up r (arrOf st') lo n->Q true st'):eF (model prog w) A E J (binarySort' lo n ok) Q st:=by
 rw[binarySort'_eq];refine ao (bz (dZ (I:=λk c st'=>c=(none,())/\KB a₀ kd lo st₀ st'/\Up r (arrOf st') lo (min k n)) (Q:=λc st'=>c=(none,())/\KB a₀ kd lo st₀ st'/\Up r (arrOf st') lo n) ?s ?e ?i) ?p)
 case p=>
  rintro c st' ⟨rfl,B',hs'⟩;exact ay (h st' B' hs')
 case i=>
  refine⟨rfl,B,λi j hij hj=>?_⟩
  by_cases h1:ok=0
  ·have:i=j:=by omega
   subst this;exact J8 _
  ·exact hs i j hij ⋯
 case e=>
  rintro c st' ⟨hc,B',hs'⟩;refine⟨hc,B',?_⟩
  rwa [show min (max (max ok 1) n) n=n by omega]at hs'
 case s=>
  rintro k c st' hak hkn ⟨rfl,B',hs'⟩;rw[show min k n=k by omega]at hs';refine ao (bz (dZ (I:=λx c st2=>st2=st'/\∃l u,c=(none,l,u)/\l<=u/\u<=k/\u-l<=k-x /\
    (∀i,i<l->Kr r (arrOf st') (lo+i)<=Kr r (arrOf st') (lo+k))/\(∀i,u<=i->i<k->Kr r (arrOf st') (lo+k)<Kr r (arrOf st') (lo+i)))
   (Q:=λc st2=>st2=st'/\∃l u,c=(none,l,u)/\l<=k /\
    (∀i,i<l->Kr r (arrOf st') (lo+i)<=Kr r (arrOf st') (lo+k))/\(∀i,l<=i->i<k->Kr r (arrOf st') (lo+k)<Kr r (arrOf st') (lo+i))) ?s2 ?e2 ?i2) ?p2)
  case i2=>exact⟨rfl,0,k,rfl,⋯,⋯,⋯,λi hi=>by omega,λi h1 h2=>by omega⟩
  case e2=>
   rintro c st2 ⟨rfl,l,u,rfl,h1,h2,h3,h4,h5⟩;have:l=u:=by omega
   subst this;exact⟨rfl,l,l,rfl,h2,h4,h5⟩
  case s2=>
   rintro x c st2 _ hxk ⟨rfl,l,u,rfl,h1,h2,h3,h4,h5⟩;dsimp only
   by_cases hg:l≥u
   ·rw[if_pos hg]
    have:l=u:=by omega
    subst this;exact ay ⟨rfl,l,l,rfl,h2,h4,h5⟩
   ·rw[if_neg hg]
    refine ao (vn C B'.sb ⋯ ⋯ ?_)
    by_cases hl:Kr r (arrOf st2) (lo+k)<Kr r (arrOf st2) (lo+(l+u)/2)
    ·simp only[hl,decide_true,if_true]
     exact ay ⟨rfl,l,(l+u)/2,rfl,⋯,⋯,⋯,h4,λi q1 q2=>J3 hl (hs' _ _ q1 q2)⟩
    ·simp only[hl,decide_false,Bool.false_eq_true,if_false]
     exact ay ⟨rfl,(l+u)/2+1,u,rfl,⋯,⋯,⋯,λi q1=>Kd (hs' i ((l+u)/2) ⋯ ⋯) (Nat.not_lt.mp hl),h5⟩
  case p2=>
   rintro c st2 ⟨rfl,l,u,rfl,h2,h4,h5⟩;show eF _ _ _ _ (moveDown' (lo+k) (lo+l) >>= λ_=>pure (ForInStep.yield (none,()))) _ _;rw[moveDown'_eq];have hz:lo+k<(arrOf st2).size:=by rw[B'.sb.size];omega
   refine ao (cT (ay ⟨rfl,B'.set (bubble_perm _ _ _) λi hi=>?_,?_⟩))
   ·rw[getElem?_bubble hz _ ⋯,if_neg ⋯,if_neg ⋯]
   ·rw[show min (k+1) n=k+1 by omega]
    intro i j hij hj;show Kr r (bubble (arrOf st2) (lo+k) (lo+k-(lo+l))) (lo+i)<=Kr r (bubble (arrOf st2) (lo+k) (lo+k-(lo+l))) (lo+j);rw[qc hz ⋯,qc hz ⋯,show lo+k-(lo+k-(lo+l))=lo+l by omega]
    repeat' split
    all_goals first
     | (exfalso;omega)
     |exact J8 _
     |exact h4 _ ⋯
     | (rw[show lo+j-1=lo+(j-1) by omega];exact Nat.le_of_lt (h5 _ ⋯ ⋯))
     | (rw[show lo+i-1=lo+(i-1) by omega,show lo+j-1=lo+(j-1) by omega];exact hs' _ _ ⋯ ⋯)
     | (rw[show lo+j-1=lo+(j-1) by omega];exact hs' _ _ ⋯ ⋯)
     |exact hs' _ _ ⋯ ⋯
theorem Dg{xs:PA}{lo n:Nat}(hz:lo+n<=xs.size)(h:Up r xs lo n):((xs.toList.drop lo).take n).Pairwise (ia r):=by
 rw[List.pairwise_iff_getElem];intro i j hi hj hij;have lj:j<n:=by simp at hj;omega
 have at':∀k (hk:k<((xs.toList.drop lo).take n).length),Kr r xs (lo+k)=r ((xs.toList.drop lo).take n)[k]:=by
  intro k hk;unfold Kr;rw[B6 (n:=n) (by simpa using hz) (by simp at hk;omega),JJ hk]
 have:=h i j (Nat.le_of_lt hij) lj;rw[at' i hi,at' j hj]at this;exact this
theorem KB.split{lo n:Nat}{st₀ st:SortSt}(B:KB a₀ kd lo st₀ st){u:List Keyed}{v:List Keyed}(e:(arrOf st₀).toList=u++v)(hu:u.length=lo)(hn:lo+n<=a₀.size)(hs:Up r (arrOf st) lo n) :
  ∃x v',(arrOf st).toList=u++(x++v')/\x.length=n/\x.Pairwise (ia r):=by
 have hz:lo+n<=(arrOf st).size:=by rw[B.sb.size];exact hn
 refine⟨((arrOf st).toList.drop lo).take n,(arrOf st).toList.drop (lo+n),?_,by simp;omega,Dg hz hs⟩;have e1:(arrOf st).toList.take lo=u:=by
  apply List.ext_getElem?;intro i
  by_cases hi:i<lo
  ·rw[List.getElem?_take,if_pos hi,Array.getElem?_toList,B.be i hi,<- Array.getElem?_toList,e,J6 ⋯]
  ·rw[List.getElem?_take,if_neg hi,List.getElem?_eq_none ⋯]
 rw[<- List.drop_drop,List.take_append_drop,<- e1,List.take_append_drop]
abbrev Pd:=Nat×Nat×Nat
def fm(r:Keyed->Nat):List Pd->List (List Keyed)->Nat->Prop
 | [],rs,_=>rs=[]
 |e::p,rs,k=>∃x rs',rs=x::rs'/\e.1=k/\e.2.1=x.length/\x≠[]/\x.Pairwise (ia r)/\fm r p rs' (k+x.length)
theorem fm.app:∀{p q:List Pd} {rs:List (List Keyed)} {k:Nat},fm r (p++q) rs k↔∃r1 r2,rs=r1++r2/\fm r p r1 k/\fm r q r2 (k+r1.flatten.length)
 | [],q,rs,k=>by
  constructor
  ·exact λh=>⟨[],rs,rfl,rfl,by simpa using h⟩
  ·rintro⟨r1,r2,rfl,h1,h2⟩
   cases(show r1=[] from h1)
   simpa using h2
 |e::p,q,rs,k=>by
  constructor
  ·rintro⟨x,rs',rfl,e1,e2,x0,xs,h⟩
   obtain⟨r1,r2,rfl,h1,h2⟩:=fm.app.mp h;exact⟨x::r1,r2,rfl,⟨x,r1,rfl,e1,e2,x0,xs,h1⟩,by rw[List.flatten_cons,J7,<- Nat.add_assoc];exact h2⟩
  ·rintro⟨r1,r2,rfl,⟨x,rs',rfl,e1,e2,x0,xs,h1⟩,h2⟩
   rw[List.flatten_cons,J7,<- Nat.add_assoc]at h2;exact⟨x,rs'++r2,rfl,e1,e2,x0,xs,fm.app.mpr ⟨rs',r2,rfl,h1,h2⟩⟩
theorem fm.many:∀{p:List Pd} {rs:List (List Keyed)} {k:Nat},fm r p rs k->p.length<=rs.flatten.length
 | [],rs,k,h=>by simp
 |e::p,rs,k,h=>by
  obtain⟨x,rs',rfl,e1,e2,x0,xs,h1⟩:=h;have:=fm.many h1;have:=List.length_pos_iff.mpr x0;simp;simp at *;omega
theorem fm.mod{f:Pd->Pd}(hf:∀e,(f e).1=e.1/\(f e).2.1=e.2.1):∀{p:List Pd} {i:Nat} {rs:List (List Keyed)} {k:Nat},fm r p rs k->fm r (p.modify i f) rs k
 | [],i,rs,k,h=>by simpa using h
 |e::p,0,rs,k,h=>by
  obtain⟨x,rs',rfl,e1,e2,q⟩:=h;rw[List.modify_zero_cons];exact⟨x,rs',rfl,(hf e).1.trans e1,(hf e).2.trans e2,q⟩
 |e::p,i+1,rs,k,h=>by
  obtain⟨x,rs',rfl,e1,e2,x0,xs,q⟩:=h;rw[List.modify_succ_cons];exact⟨x,rs',rfl,e1,e2,x0,xs,fm.mod hf q⟩
structure RI(a₀:PA)(kd:SortKind)(r:Keyed->Nat)(st:SortSt)(lo:Nat)(aY:List Keyed):Prop where
 sb:SB a₀ kd st
 ex:∃rs,(arrOf st).toList=rs.flatten++aY/\rs.flatten.length=lo/\fm r (pendingOf st).toList rs 0
theorem A0{α:Type}{l:List α}{i:Nat}(h:i+1<l.length):∃p1 e1 e2 p2,l=p1++e1::e2::p2/\p1.length=i:=by
 refine⟨l.take i,l[i],l[i+1],l.drop (i+2),?_,by simp;omega⟩;have e1:=List.drop_eq_getElem_cons (l:=l) (i:=i) ⋯;have e2:=List.drop_eq_getElem_cons (l:=l) (i:=i+1) ⋯;rw[show i+2=i+1+1 by omega,<- e2,<- e1,List.take_append_drop]
theorem lC(C:tH prog w A J a₀ kd r){st:SortSt}{lo i:Nat}{aY:List Keyed}(R:RI a₀ kd r st lo aY)(hi:i+1<(pendingOf st).size){Q:Bool->SortSt->Prop}
  (h:∀st',RI a₀ kd r st' lo aY->(pendingOf st').size+1=(pendingOf st).size->Q true st'):eF (model prog w) A E J (mergeAt' i) Q st:=by
 obtain⟨B,rs,ea,el,hr⟩:=R;obtain⟨p1,e1,e2,p2,ep,rfl⟩:=A0 (l:=(pendingOf st).toList) (i:=i) (by simpa using hi);rw[ep]at hr;obtain⟨r1,r2,rfl,h1,x,r3,rfl,c1,c2,x0,sx,y,r4,rfl,d1,d2,y0,sy,h4⟩:=fm.app.mp hr;obtain⟨s1,n1,w1⟩:=e1;obtain⟨s2,n2,w2⟩:=e2;dsimp only at c1 c2 d1 d2;rw[Nat.zero_add]at c1 d1;subst c1;subst c2;subst d1;subst d2
 refine zE C B (u:=r1.flatten) (x:=x) (y:=y) (v:=r4.flatten++aY) ep (by rw[ea];simp) x0 y0 sx sy λst' z B' p' a' zp zs=>h st' ⟨B',r1++z::r4,by rw[a'];simp,?_,?_⟩ ?_
 ·have:=zp.length_eq
  simp at this el ⊢;omega
 ·rw[p']
  refine fm.app.mpr ⟨r1,z::r4,rfl,h1,z,r4,rfl,by simp,by have:=zp.length_eq;simp at this ⊢;omega,?_,zs,?_⟩
  ·intro e
   rw[e]at zp;have:=zp.length_eq;have:=List.length_pos_iff.mpr x0;simp at *;omega
  ·have:=zp.length_eq
   rw[J7]at this;rw[this,<- Nat.add_assoc,Nat.zero_add];rw[Nat.zero_add]at h4;exact h4
 ·have q1:=congrArg List.length p'
  have q2:=congrArg List.length ep;simp at q1 q2;omega
theorem wO(C:tH prog w A J a₀ kd r){st:SortSt}{Q:Unit->SortSt->Prop}(B:SB a₀ kd st)(hp:pendingOf st=#[])(h1:1<=a₀.size)
  (h:∀st',SB a₀ kd st'->(arrOf st').toList.Pairwise (ia r)->Q () st'):eF (model prog w) A E J sortRuns' Q st:=by
 rw[sortRuns'_eq];refine ao (gt ?_);dsimp only;rw[B.size];generalize minRun' a₀.size a₀.size 0=mr;refine ao (bz (dZ (I:=λx c st'=>∃lo,c=(none,lo)/\x<=lo/\lo<=a₀.size/\∃aY,RI a₀ kd r st' lo aY) (Q:=λc st'=>c=(none,a₀.size)/\∃aY,RI a₀ kd r st' a₀.size aY) ?s ?e ?i) ?p)
 case i=>exact⟨0,rfl,⋯,⋯,(arrOf st).toList,B,[],by simp,rfl,by rw[hp];rfl⟩
 case e=>
  rintro c st' ⟨lo,rfl,h2,h3,R⟩;have:lo=a₀.size:=by omega
  subst this;exact⟨rfl,R⟩
 case s=>
  rintro x c st' _ hx ⟨lo,rfl,h2,h3,aY,R⟩;dsimp only
  by_cases hg:lo≥a₀.size
  ·rw[if_pos hg]
   have:lo=a₀.size:=by omega
   subst this;exact ay ⟨rfl,aY,R⟩
  ·rw[if_neg hg]
   refine ao (vR C R.sb ⋯ ⋯ λm st2 B2 m1 m2 hu=>?_);dsimp only
   -- with a run of n from lo on: merges,and the run is put behind the others
   have start:∀n st3,KB a₀ kd lo st' st3->1<=n->n<=a₀.size-lo->Up r (arrOf st3) lo n->∃y v,RI a₀ kd r st3 lo (y++v)/\y.length=n/\y≠[]/\y.Pairwise (ia r):=by
    intro n st3 B3 n1 n2 hu3;obtain⟨_,rs,ea,el,hr⟩:=R;obtain⟨y,v,e,ey,sy⟩:=B3.split ea el ⋯ hu3;refine⟨y,v,⟨B3.sb,rs,e,el,by rw[B3.pe];exact hr⟩,ey,?_,sy⟩;intro q;subst q;simp at ey;omega
   have push:∀n st3 y v,1<=n->n<=a₀.size-lo->RI a₀ kd r st3 lo (y++v)->y.length=n->y≠[]->y.Pairwise (ia r) ->
     ∃lo',((none,lo+n):Option Unit×Nat)=(none,lo')/\x+1<=lo'/\lo'<=a₀.size/\∃aY,RI a₀ kd r (setPending st3 ((pendingOf st3).push (lo,n,0))) lo' aY:=by
    intro n st3 y v n1 n2 R3 ey y0 sy;obtain⟨B3,rs,ea,el,hr⟩:=R3;refine⟨lo+n,rfl,⋯,⋯,v,⟨B3.perm,B3.kind,B3.failed⟩,rs++[y],?_,?_,?_⟩
    ·show(arrOf st3).toList=_
     rw[ea];simp
    ·simp at el ⊢;omega
    ·show fm r ((pendingOf st3).push (lo,n,0)).toList _ _
     rw[Array.toList_push];exact fm.app.mpr ⟨rs,[y],rfl,hr,y,[],rfl,by show lo=0+_;rw[el];omega,ey.symm,y0,sy,rfl⟩
   by_cases hlt:m<mr
   ·rw[if_pos hlt]
    refine ao (jX λ_ jj=>wpAny_rule ⟨jj,?_⟩);refine ao (F0 C B2 (n:=min (a₀.size-lo) mr) ⋯ ⋯ hu λst3 B3 hu3=>?_);rw[if_neg nofun];have n1:1<=min (a₀.size-lo) mr:=by omega
    have n2:min (a₀.size-lo) mr<=a₀.size-lo:=by omega
    generalize min (a₀.size-lo) mr=n at n1 n2 hu3 ⊢;obtain⟨y,v,R3,ey,y0,sy⟩:=start n st3 B3 n1 n2 hu3;refine ao (gt ?_);cases hb:(pendingOf st3).back? with
    |none=>
     dsimp only;exact ao (cT (ay (push n st3 y v n1 n2 R3 ey y0 sy)))
    |some e=>
     obtain⟨s1,l1,w1⟩:=e;dsimp only;refine ao (bz (dZ (I:=λ_ c st4=>c=(none,())/\RI a₀ kd r st4 lo (y++v)) (Q:=λc st4=>c=(none,())/\RI a₀ kd r st4 lo (y++v)) ?_ (λ_ _ q=>q) ⟨rfl,R3⟩) ?_)
     ·rintro z c st4 _ _ ⟨rfl,R4⟩
      refine ao (gt ?_)
      by_cases hz:(pendingOf st4).size>1
      ·rw[if_pos hz]
       have hz':(pendingOf st4).size-2<(pendingOf st4).size:=by omega
       rw[getElem?_pos (pendingOf st4) _ hz'];generalize(pendingOf st4)[(pendingOf st4).size-2]=e;obtain⟨f1,f2,f3⟩:=e;dsimp only
       split
       ·exact ay ⟨rfl,R4⟩
       ·refine ao (lC C R4 ⋯ λst5 R5 _=>?_)
        rw[if_neg nofun];exact ay ⟨rfl,R5⟩
      ·rw[if_neg hz];exact ay ⟨rfl,R4⟩
     ·rintro c st4 ⟨rfl,R4⟩
      dsimp only;refine ao (cT (ao (cT (ay (push n _ y v n1 n2 ?_ ey y0 sy)))));obtain⟨B4,rs,ea,el,hr⟩:=R4;exact⟨⟨B4.perm,B4.kind,B4.failed⟩,rs,ea,el,by
       show fm r (Array.modify _ _ _).toList _ _;rw[Array.toList_modify];refine fm.mod ?_ hr;exact λe=>⟨rfl,rfl⟩⟩
   ·rw[if_neg hlt]
    clear hlt
    revert hu m2 m1 B2;revert st2 m
    intro n st3 B3 n1 n2 hu3;obtain⟨y,v,R3,ey,y0,sy⟩:=start n st3 B3 n1 n2 hu3;refine ao (gt ?_);cases hb:(pendingOf st3).back? with
    |none=>
     dsimp only;exact ao (cT (ay (push n st3 y v n1 n2 R3 ey y0 sy)))
    |some e=>
     obtain⟨s1,l1,w1⟩:=e;dsimp only;refine ao (bz (dZ (I:=λ_ c st4=>c=(none,())/\RI a₀ kd r st4 lo (y++v)) (Q:=λc st4=>c=(none,())/\RI a₀ kd r st4 lo (y++v)) ?_ (λ_ _ q=>q) ⟨rfl,R3⟩) ?_)
     ·rintro z c st4 _ _ ⟨rfl,R4⟩
      refine ao (gt ?_)
      by_cases hz:(pendingOf st4).size>1
      ·rw[if_pos hz]
       have hz':(pendingOf st4).size-2<(pendingOf st4).size:=by omega
       rw[getElem?_pos (pendingOf st4) _ hz'];generalize(pendingOf st4)[(pendingOf st4).size-2]=e;obtain⟨f1,f2,f3⟩:=e;dsimp only
       split
       ·exact ay ⟨rfl,R4⟩
       ·refine ao (lC C R4 ⋯ λst5 R5 _=>?_)
        rw[if_neg nofun];exact ay ⟨rfl,R5⟩
      ·rw[if_neg hz];exact ay ⟨rfl,R4⟩
     ·rintro c st4 ⟨rfl,R4⟩
      dsimp only;refine ao (cT (ao (cT (ay (push n _ y v n1 n2 ?_ ey y0 sy)))));obtain⟨B4,rs,ea,el,hr⟩:=R4;exact⟨⟨B4.perm,B4.kind,B4.failed⟩,rs,ea,el,by
       show fm r (Array.modify _ _ _).toList _ _;rw[Array.toList_modify];refine fm.mod ?_ hr;exact λe=>⟨rfl,rfl⟩⟩
 case p=>
  rintro c st' ⟨rfl,aY,R⟩;dsimp only;have pz:(pendingOf st').size<=a₀.size:=by
   obtain⟨_,rs,_,el,hr⟩:=R;have:=hr.many;simp at this el;omega
  refine ao (bz (dZ (I:=λx c st2=>c=(none,())/\RI a₀ kd r st2 a₀.size aY/\(pendingOf st2).size+x<=a₀.size\/c=(none,())/\RI a₀ kd r st2 a₀.size aY/\(pendingOf st2).size<=1)
   (Q:=λc st2=>c=(none,())/\RI a₀ kd r st2 a₀.size aY/\(pendingOf st2).size<=1) ?s2 ?e2 (.inl ⟨rfl,R,pz⟩)) ?p2)
  case e2=>
   rintro c st2 (⟨rfl,R2,q⟩ | ⟨rfl,R2,q⟩)
   ·exact⟨rfl,R2,⋯⟩
   ·exact⟨rfl,R2,q⟩
  case s2=>
   intro x c st2 _ hx hI;have hc:c=(none,()):=by rcases hI with q | q<;>exact q.1
   have R2:RI a₀ kd r st2 a₀.size aY:=by rcases hI with q | q<;>exact q.2.1
   refine ao (gt ?_)
   by_cases h2:(pendingOf st2).size<=1
   ·rw[if_pos h2];exact ay ⟨rfl,R2,h2⟩
   ·rw[if_neg h2]
    have q:(pendingOf st2).size+x<=a₀.size:=by
     rcases hI with q | q
     ·exact q.2.2
     ·exact absurd q.2.2 h2
    refine ao (lC C R2 ?_ λst3 R3 q3=>?_)
    ·repeat' split
     all_goals omega
    ·rw[if_neg nofun]
     exact ay (.inl ⟨rfl,R3,⋯⟩)
  case p2=>
   rintro c st2 ⟨rfl,R2,q⟩;refine ay (h st2 R2.sb ?_);obtain⟨B2,rs,ea,el,hr⟩:=R2;have lz:(arrOf st2).toList.length=a₀.size:=by simpa using B2.size
   have r0:aY=[]:=by
    have:=congrArg List.length ea;rw[J7]at this;exact Ks.mp ⋯
   subst r0;rw[Kg]at ea;rw[ea];cases hpl:(pendingOf st2).toList with
   |nil=>rw[hpl]at hr;cases(show rs=[] from hr);exact .nil
   |cons e p=>
    rw[hpl]at hr;obtain⟨y,rs',rfl,_,_,_,sy,q'⟩:=hr;have:p=[]:=by
     have:=congrArg List.length hpl;exact Ks.mp (by simp at this;omega)
    subst this;cases(show rs'=[] from q')
    simpa using sy
end
def rk(O:KeyOrd)(f:Keyed->O.α)(l:List Keyed)(p:Keyed):Nat:=l.countP λq=>O.blt (f q) (f p)
theorem uA{α:Type}{f g:α->Bool}:∀{l:List α},(∀x,x∈l->f x=true->g x=true)->(∃x,x∈l/\f x=false/\g x=true)->l.countP f<l.countP g
 | [],_,h=>by obtain⟨x,hx,_⟩:=h;exact nomatch hx
 |x::l,h,⟨y,hy,e1,e2⟩=>by
  rw[List.countP_cons,List.countP_cons];have le:l.countP f<=l.countP g:=List.countP_mono_left λx hx=>h x (J1 _ hx);rcases J0.mp hy with rfl | hy
  ·rw[e1,e2];simp;omega
  ·have:=uA (f:=f) (g:=g) (l:=l) (λx hx=>h x (J1 _ hx)) ⟨y,hy,e1,e2⟩
   have:=h x (List.mem_cons_self ..);cases hf:f x<;>cases hg:g x<;>simp_all<;>omega
theorem DV{O:KeyOrd}{f:Keyed->O.α}{l:List Keyed}{x y:Keyed}(hx:x∈l):O.blt (f x) (f y)=decide (rk O f l x<rk O f l y):=by
 cases h:O.blt (f x) (f y) with
 |true=>
  refine(decide_eq_true ?_).symm;exact uA (λz _ hz=>O.trans _ _ _ hz h) ⟨x,hx,O.irrefl _,h⟩
 |false=>
  refine(decide_eq_false (Nat.not_lt.mpr ?_)).symm;refine List.countP_mono_left λz _ hz=>?_;rcases O.negTrans _ (f x) _ hz with q | q
  ·exact q
  ·rw[h]at q;exact absurd q nofun
theorem FF{O:KeyOrd}{f:Keyed->O.α}{l:List Keyed}{x y:Keyed}(hy:y∈l)(h:rk O f l x<=rk O f l y):O.blt (f y) (f x)=false:=by
 rw[DV (f:=f) (l:=l) hy];exact decide_eq_false (Nat.not_lt.mpr h)
theorem Dj{h:Heap}{a:Addr}{vs:Array Value}{n:Nat}(ho:h.get? a=some (seqObj "list" vs n)):∃e1,(h.update a (Obj.mapSeq λ_=>#[])).get? a=some (seqObj "list" #[] e1):=⟨_,get?_update_seq ho _⟩
def sort1(h:Heap)(a:Addr)(vs:KL):Heap:=((h.update a (Obj.mapSeq λ_=>#[])).push (seqObj "tuple" vs.toArray 0)).push (seqObj "list" #[] 0)
section
variable {prog:KP}{w:KS}{A:KR}{E:KF}{s s2:KJ}
abbrev with1(s2:KJ)(vs:KL):Heap:=s2.heap.push (seqObj "list" vs.toArray 0)
theorem ranks_out{O:KeyOrd}{f:Keyed->O.α}{l ps:List Keyed}(hp:ps.Perm l)(h:ps.Pairwise (ia (rk O f l))):ps.Pairwise λp q=>O.blt (f q) (f p)=false:=by
 have mem:∀p,p∈ps->p∈l:=λp hp'=>hp.mem_iff.mp hp';clear hp
 induction ps with
 |nil=>exact .nil
 |cons p ps ih=>
  rw[List.pairwise_cons]at h ⊢;exact⟨λq hq=>FF (mem q (J1 _ hq)) (h.1 q hq),ih h.2 λq hq=>mem q (J1 _ hq)⟩
end
end TS
namespace TS
open PySem PyProof.Rows PySem.MeetsSeq PySem.MeetsSeq3
open AutoSeq1 (wpAny_loadPart')
abbrev Gf(s:KJ)(a:Addr)(xs:Array Value)(n:Nat)(dd:KU)(sl:Array (Option Value)):Prop:=s.heap.get? a=some {cls:=.type "list",dict:=dd,data:=.seq xs n,slots:=sl}
def ka:List Str->List Str->Bool
 | [],[]=>false
 | [],_::_=>true
 |_::_,[]=>false
 |x::xs,y::ys=>if x==y then ka xs ys else decide (x.cps.toList<y.cps.toList)
section
variable {prog:KP}{w:KS}{A:KR}{E:KF}{s:KJ}
theorem uB{x y:Str}{t u:Tok}{Q:KF}(h:Q (.bool (decide (x.cps.toList<y.cps.toList))) s):wpAny (model prog w) A (richCompare .Lt (.str x t) (.str y u)) Q E s:=
 wpAny_richCompare_same (typeIs_str s x t) (typeIs_str s y u) slot_str_lt (call_str_lt ⟨(λq=>nomatch q),h⟩)
end
set_option maxHeartbeats 1600000 in
theorem Cw(l b:Addr)(items items2:Array Value)(n n2:Nat)(dd dd2:KU)(sl sl2:Array (Option Value))(k:Nat) :
  ∀(i:Nat) (ss ts:KQ),ss.length+ts.length=k->i<=items.size->i<=items2.size->StrsAre (items.toList.drop i) ss->StrsAre (items2.toList.drop i) ts->Meets (Builtin.«list.__eq__.loop» ⟨[.ref l,.ref b,rawInt i,rawInt 0],[]⟩)
   (λA R s=>Gf s l items n dd sl/\Gf s b items2 n2 dd2 sl2 /\
    R (.ok (.ret (.bool (ka ss ts)))) s):=by
 induction k using Nat.strongRecOn with
 |_ k ih=>
 intro i ss ts hk i1 i2 h1 h2 prog w A R s h;obtain⟨hp,g,d,tk,os⟩:=s;obtain⟨hl,hb,h⟩:=h
 wp_walk using wpAny_loadPart' hl,wpAny_loadPart' hb
 have ei:((i:Nat):Int).toNat=i:=by simp
 rw[ei];have no:∀{xs:Array Value},xs.toList.drop i=[]->i<=xs.size->xs[i]?=none/\xs.size=i:=fun{xs} e q=>by
  have:=congrArg List.length e;simp at this;exact⟨by simp;omega,⋯⟩
 have yes:∀{xs:Array Value} {v:Value} {r:KL},xs.toList.drop i=v::r->xs[i]?=some v/\i<xs.size/\xs.toList.drop (i+1)=r:=fun{xs v r} e=>by
  have hlt:i<xs.toList.length:=by
   have:=congrArg List.length e;simp at this ⊢;omega
  have q:=List.drop_eq_getElem_cons (l:=xs.toList) hlt;rw[e]at q;obtain⟨q1,q2⟩:=List.cons.inj q;exact⟨by rw[<- Array.getElem?_toList,JJ hlt,q1],by simpa using hlt,q2.symm⟩
 generalize hd1:items.toList.drop i=v1 at h1;generalize hd2:items2.toList.drop i=v2 at h2;cases h1 with
 |nil=>
  obtain⟨n1,z1⟩:=no hd1 i1;rw[n1];cases h2 with
  |nil=>
   obtain⟨n2',z2⟩:=no hd2 i2;rw[n2']
   wp_walk using wpAny_loadPart' hl,wpAny_loadPart' hb
   show R (.ok (.ret (.bool (decide (items.size<items2.size))))) _;rw[decide_eq_false ⋯];exact h
  |cons y u h2'=>
   obtain⟨n2',z2,_⟩:=yes hd2;rw[n2']
   wp_walk using wpAny_loadPart' hl,wpAny_loadPart' hb
   show R (.ok (.ret (.bool (decide (items.size<items2.size))))) _;rw[decide_eq_true ⋯];exact h
 |cons x t h1'=>
  obtain⟨n1,z1,d1⟩:=yes hd1;rw[n1];cases h2 with
  |nil=>
   obtain⟨n2',z2⟩:=no hd2 i2;rw[n2']
   wp_walk using wpAny_loadPart' hl,wpAny_loadPart' hb
   show R (.ok (.ret (.bool (decide (items.size<items2.size))))) _;rw[decide_eq_false ⋯];exact h
  |cons y u h2'=>
   obtain⟨n2',z2,d2⟩:=yes hd2;rw[n2'];refine wpAny_bind (eqBool_str ?_);unfold ka at h;cases hxy:x==y with
   |true=>
    rw[hxy,if_pos rfl]at h
    wp_walk
    have hc:((i:Int)+1)=((i+1:Nat):Int):=by push_cast;rfl
    rw[hc];exact⟨plainId_quiet plain_eq_loop _,codeAny_builtin entry_eq_loop (by
     rw[Around.under_plainId plain_eq_loop _];exact ih _ (by rw[<- hk];simp;omega) (i+1) _ _ rfl ⋯ ⋯ (by rw[d1];exact h1') (by rw[d2];exact h2') prog w A R _ ⟨hl,hb,h⟩)⟩
   |false=>
    rw[hxy,if_neg nofun]at h
    wp_walk using wpAny_loadPart' hl,wpAny_loadPart' hb
    rw[n1,n2'];exact wpAny_bind (uB (wpAny_pure h))
theorem rE(l b:Addr)(items items2:Array Value)(n n2:Nat)(dd dd2:KU)(sl sl2:Array (Option Value))(ss ts:KQ)(h1:StrsAre items.toList ss)(h2:StrsAre items2.toList ts) :
  Meets (Builtin.«list.__lt__» ⟨[.ref l,.ref b],[]⟩)
   (λA R s=>Gf s l items n dd sl/\Gf s b items2 n2 dd2 sl2 /\
    R (.ok (.ret (.bool (ka ss ts)))) s):=by
 intro prog w A R s h;obtain⟨hp,g,d,tk,os⟩:=s;obtain⟨hl,hb,h⟩:=h
 have f3:=AutoSeq1.sub_list_list
 wp_walk using wpAny_loadPart' hl,wpAny_loadPart' hb
 exact⟨plainId_quiet plain_eq_loop _,codeAny_builtin entry_eq_loop (by
  rw[Around.under_plainId plain_eq_loop _];exact Cw l b items items2 n n2 dd dd2 sl sl2 _ 0 ss ts rfl (J9 _) (J9 _) h1 h2 prog w A R _ ⟨hl,hb,h⟩)⟩
abbrev cp(x:Str):List Nat:=x.cps.toList
theorem EK{x y:Str}(h:cp x=cp y):x=y:=by
 cases x;cases y;exact congrArg _ (Array.toList_inj.mp h)
abbrev ks(l:KQ):List (List Nat):=l.map cp
theorem rX:∀(l m:KQ),ka l m=decide (ks l<ks m)
 | [],[]=>by simp[ka,List.lt_irrefl]
 | [],_::_=>by simp[ka]
 |_::_,[]=>by simp[ka]
 |x::l,y::m=>by
  unfold ka;have e:(ks (x::l)<ks (y::m))↔(cp x<cp y\/cp x=cp y/\ks l<ks m):=List.cons_lt_cons_iff
  by_cases h:x=y
  ·subst h
   rw[if_pos (beq_self_eq_true x),rX l m];refine decide_eq_decide.mpr (e.trans ⟨λq=>?_,λq=>.inr ⟨rfl,q⟩⟩).symm;rcases q with q | q
   ·exact absurd q (List.lt_irrefl _)
   ·exact q.2
  ·rw[if_neg (by simpa using h)]
   refine decide_eq_decide.mpr (e.trans ⟨λq=>?_,λq=>.inl q⟩).symm;rcases q with q | q
   ·exact q
   ·exact absurd (EK q.1) h
@[reducible] def Jx:KeyOrd where
 α:=List (List Nat)
 blt a b:=decide (a<b)
 irrefl x:=decide_eq_false (List.lt_irrefl x)
 trans x y z p q:=decide_eq_true (List.lt_trans (of_decide_eq_true p) (of_decide_eq_true q))
 negTrans a b c h:=by
  simp only[decide_eq_true_eq]at *
  by_cases hab:a<b
  ·exact .inl hab
  ·exact .inr (List.lt_of_le_of_lt (List.not_lt.mp hab) h)
 total x y p q:=List.le_antisymm (List.not_lt.mp (of_decide_eq_false q)) (List.not_lt.mp (of_decide_eq_false p))
@[reducible] def ordI:KeyOrd where
 α:=Int×List (List Nat)
 blt a b:=decide (a.1<b.1\/a.1=b.1/\a.2<b.2)
 irrefl a:=by simp[List.lt_irrefl]
 trans a b c h1 h2:=by
  simp only[decide_eq_true_eq]at *;rcases h1 with h1 | ⟨h1,h1'⟩<;>rcases h2 with h2 | ⟨h2,h2'⟩
  ·exact .inl ⋯
  ·exact .inl ⋯
  ·exact .inl ⋯
  ·exact .inr ⟨⋯,List.lt_trans h1' h2'⟩
 negTrans a b c h:=by
  simp only[decide_eq_true_eq]at *
  by_cases h1:a.1<b.1
  ·exact .inl (.inl h1)
  ·by_cases h2:b.1<c.1
   ·exact .inr (.inl h2)
   ·rcases h with h | ⟨h,h'⟩
    ·omega
    ·by_cases hab:a.2<b.2
     ·exact .inl (.inr ⟨⋯,hab⟩)
     ·exact .inr (.inr ⟨⋯,List.lt_of_le_of_lt (List.not_lt.mp hab) h'⟩)
 total a b h1 h2:=by
  simp only[decide_eq_false_iff_not]at *;have e:a.1=b.1:=by
   have q1:¬ a.1<b.1:=λq=>h1 (.inl q);have q2:¬ b.1<a.1:=λq=>h2 (.inl q);omega
  have e2:a.2=b.2:=List.le_antisymm (List.not_lt.mp λq=>h2 (.inr ⟨e.symm,q⟩)) (List.not_lt.mp λq=>h1 (.inr ⟨e,q⟩));exact Prod.ext e e2
section
variable {prog:KP}{w:KS}{A:KR}{E:KF}{s:KJ}
theorem nV:∀{vs:KL} {ss:KQ},StrsAre vs ss->vs.length=ss.length
 |_,_,.nil=>rfl
 |_,_,.cons x t h=>by simp[nV h]
theorem rS:∀{vs:KL} {ss:KQ},StrsAre vs ss->∀j (h:j<vs.length),∃t,vs[j]=.str (ss.getD j ⟨#[]⟩) t
 |_,_,.cons x t h,0,_=>⟨t,rfl⟩
 |_,_,.cons x t h,j+1,hj=>by
  obtain⟨t',e⟩:=rS h j (by simpa using hj);exact⟨t',by simpa using e⟩
theorem BX{l b:Addr}{xs ys:Array Value}{ss ts:KQ}(hl:s.heap.IsList l xs)(hb:s.heap.IsList b ys)(h1:StrsAre xs.toList ss)(h2:StrsAre ys.toList ts)(hu:A.units<cLine) :
  SeqAt.EqAt A s (.ref l) (.ref b) (decide (ss=ts)):=by
 by_cases hlb:l=b
 ·subst hlb
  have:xs=ys:=by
   obtain⟨o,ho,_,n,hd⟩:=hl;obtain⟨o',ho',_,n',hd'⟩:=hb;rw[ho]at ho';cases ho'
   rw[hd]at hd';injection hd'
  subst this;have:ss=ts:=by rw[<- h1.strs,<- h2.strs]
  rw[decide_eq_true this];exact SeqAt.EqAt.same _
 ·refine SeqAt.EqAt.of_refs hlb ?_
  have l1:=nV h1;have l2:=nV h2;simp at l1 l2
  by_cases hz:xs.size=ys.size
  ·have q:=SeqAt.RcAt.lists (A:=A) (e:=λj=>ss.getD j ⟨#[]⟩==ts.getD j ⟨#[]⟩) hl hb hz hu λj j1 j2=>by
    obtain⟨t,e1⟩:=rS h1 j (by simpa using j1);obtain⟨u,e2⟩:=rS h2 j (by simpa using j2);rw[Array.getElem_toList]at e1 e2;rw[e1,e2];exact λprog w E Q hq=>eqBool_str hq
   have e:((List.range xs.size).all λj=>ss.getD j ⟨#[]⟩==ts.getD j ⟨#[]⟩)=decide (ss=ts):=by
    by_cases hs:ss=ts
    ·subst hs;simp
    ·rw[decide_eq_false hs]
     refine Bool.eq_false_iff.mpr λq=>hs ?_;refine List.ext_getElem ⋯ λj j1 j2=>?_;have:=Ku.mp q j (List.mem_range.mpr ⋯);rw[List.getD_eq_getElem?_getD,List.getD_eq_getElem?_getD,JJ j1,JJ j2,Option.getD_some,Option.getD_some]at this;exact eq_of_beq this
   rw[e]at q;exact q
  ·have hs:¬ ss=ts:=λq=>hz (by rw[q]at l1;omega)
   rw[decide_eq_false hs];exact SeqAt.RcAt.lists_lengths hl hb (by simpa using hz) hu
theorem Bd{l b:Addr}{xs ys:Array Value}{ss ts:KQ}{Q:KF}(hl:s.heap.IsList l xs)(hb:s.heap.IsList b ys)(h1:StrsAre xs.toList ss)(h2:StrsAre ys.toList ts)(hu:A.units<cLine)
  (h:Q (.bool (ka ss ts)) s):wpAny (model prog w) A (richCompare .Lt (.ref l) (.ref b)) Q E s:=by
 obtain⟨⟨cls,dd,data,sl⟩,ho,hc,n,hd⟩:=id hl;obtain⟨⟨cls2,dd2,data2,sl2⟩,ho2,hc2,n2,hd2⟩:=id hb;simp only at hc hd hc2 hd2;subst hc hd hc2 hd2;exact richCompare_meets_room (op:=.Lt) ⟨_,ho,rfl⟩ ⟨_,ho2,rfl⟩ PySem.F.slot_list_lt PySem.F.entry_list_lt (PySem.F.args_list_lt_2 _ _) (rE l b xs ys n n2 dd dd2 sl sl2 ss ts h1 h2)
  ⟨ho,ho2,show Value.bool (ka ss ts)≠Value.notImplemented/\Q (.bool (ka ss ts)) s from⟨(λx=>nomatch x),h⟩⟩ hu
end
end TS
namespace TS
open PySem PyProof.Rows PySem.MeetsSeq PySem.MeetsSeq3 PySem.W
def Ei(h:Heap)(v:Value)(ss:KQ):Prop:=∃a o xs n,v=.ref a/\h.get? a=some o/\o.cls=.type "tuple"/\o.data=.seq xs n/\StrsAre xs.toList ss
def TupI(h:Heap)(v:Value)(k:Int×List Str):Prop:=∃a o n l ys t,v=.ref a/\h.get? a=some o/\o.cls=.type "tuple"/\o.data=.seq #[.int k.1 t,.ref l] n/\h.IsList l ys/\StrsAre ys.toList k.2
section
variable {prog:KP}{w:KS}{A:KR}{E:KF}{s:KJ}
theorem DC{x y:Value}{k m:Int×List Str}{Q:Bool->Shared->Prop}(hu:A.units<cLine)(hx:TupI s.heap x k)(hy:TupI s.heap y m)(h:Q (decide (k.1<m.1\/k.1=m.1/\ks k.2<ks m.2)) s) :
  wpAny (model prog w) A (keyLt' (tuples' true) x y) Q E s:=by
 obtain⟨a,o,n,l,xs,t,rfl,ho,_,hd,hl,h1⟩:=hx;obtain⟨a2,o2,n2,l2,ys,u,rfl,ho2,_,hd2,hl2,h2⟩:=hy;refine kat_lt ho hd ho2 hd2 (kat_cons (wpAny_eqBool_int ?_));cases he:k.1==m.1 with
 |false=>
  refine kat_no (oneLt_int ?_);have ne:¬ k.1=m.1:=λq=>by rw[q]at he;simp at he
  rw[show decide (k.1<m.1\/k.1=m.1/\ks k.2<ks m.2)=decide (k.1<m.1) from decide_eq_decide.mpr ⟨λq=>q.elim id λq=>absurd q.1 ne,.inl⟩]at h;exact h
 |true=>
  have eq:=eq_of_beq he;have h':Q (ka k.2 m.2) s:=by
   rw[rX];rw[show decide (k.1<m.1\/k.1=m.1/\ks k.2<ks m.2)=decide (ks k.2<ks m.2) from decide_eq_decide.mpr ⟨λq=>q.elim (λq=>by omega) And.right,λq=>.inr ⟨eq,q⟩⟩]at h;exact h
  refine kat_yes (kat_cons (BX hl hl2 h1 h2 hu prog w _ _ ?_))
  by_cases hs:k.2=m.2
  ·rw[decide_eq_true hs]
   refine kat_yes (kat_nil ?_);have:ka k.2 m.2=false:=by rw[hs,rX];exact decide_eq_false (List.lt_irrefl _)
   rw[this]at h';exact h'
  ·rw[decide_eq_false hs]
   refine kat_no ?_;rw[oneLt'_eq];simp only[show((true&&(1:Nat)==0)=true)=False by simp,if_false];exact wpAny_bind (Bd hl hl2 h1 h2 hu (wpAny_truthy_bool h'))
def keyEnd(h:Heap)(a kS:Addr)(out:Array Value):Heap:=(h.update kS (Obj.mapSeq λ_=>#[])).update a (Obj.mapSeq λ_=>out)
theorem A1{a kS:Addr}{e e1:Nat}{keys:Array Value}{vs:KL}{st:SortSt}{P:Fin->Shared->Prop}(hka:a≠kS)(hk:s.heap.get? kS=some (seqObj "list" keys e))(ha:s.heap.get? a=some (seqObj "list" #[] e1))
  (hz:keys.size<=sizeLine) (hz2:(arrOf st).size<=sizeLine) (hf:failedOf st=none) (h:P (.done (.ret .none)) {s with heap:=keyEnd s.heap a kS ((arrOf st).map (·.2))}) :
  wpAny (model prog w) A (ksk_tail a false e1 (.ref kS) st) P E s:=by
 have na1:(s.heap.update kS (Obj.mapSeq λ_=>(#[]:Array Value))).get? a=some (seqObj "list" #[] e1):=((Heap.SameBut.update s.heap kS (Obj.mapSeq λ_=>(#[]:Array Value))).2 a hka).trans ha;unfold ksk_tail;dsimp only;refine wpAny_bind (listUpdate_at hk rfl ?_ hz (J9 _));refine wpAny_bind (wpAny_letGo ?_);refine wpAny_bind (seqEpoch_at na1 rfl ?_);refine wpAny_bind (listUpdate_at na1 rfl ?_ (J9 _) (by rw[if_neg nofun,Array.size_map];exact Nat.le_succ_of_le hz2));rw[hf];simp only[bne_self_eq_false,Bool.false_eq_true,if_false];exact wpAny_pure h
theorem Cz{a kS:Addr}{e e1:Nat}{keys:Array Value}{vs:KL}{P:Fin->Shared->Prop}(hka:a≠kS)(hk:s.heap.get? kS=some (seqObj "list" keys e))(ha:s.heap.get? a=some (seqObj "list" #[] e1))
  (hz:vs.length<=sizeLine) (hkz:keys.size=vs.length) {kd:SortKind} {r:Keyed->Nat} (hkk:2<=vs.length->∀{Q:SortKind->Shared->Prop},Q kd s->wpAny (model prog w) A (keyKind' keys) Q E s)
  (C:2<=vs.length->tH prog w A (· = s) (keys.zip vs.toArray) kd r)
  (h:∀ps:List Keyed,ps.Perm (keys.toList.zip vs)->ps.Pairwise (ia r)->P (.done (.ret .none)) {s with heap:=keyEnd s.heap a kS (ps.map (·.2)).toArray}) :
  wpAny (model prog w) A (ksk_end a false vs.toArray e1 (.ref kS) keys) P E s:=by
 have zl:(keys.zip vs.toArray).toList=keys.toList.zip vs:=ksk_zip keys vs;have zs:(keys.zip vs.toArray).size=vs.length:=by rw[Array.size_zip,hkz,JS,Nat.min_self]
 have fin:∀st:SortSt,(arrOf st).toList.Perm (keys.zip vs.toArray).toList->(arrOf st).toList.Pairwise (ia r)->failedOf st=none->wpAny (model prog w) A (ksk_tail a false e1 (.ref kS) st) P E s:=by
  intro st hp hpw hf;refine A1 (vs:=vs) hka hk ha ⋯ (by have:=hp.length_eq;simp at this;omega) hf ?_;have:=h (arrOf st).toList (by rw[<- zl];exact hp) hpw
  rwa [show((arrOf st).toList.map (·.2)).toArray=(arrOf st).map (·.2) by rw[<- Array.toList_map]]at this
 have hs:vs.toArray.size=vs.length:=by simp
 unfold ksk_end;dsimp only;rw[if_neg nofun]
 by_cases h2:vs.toArray.size<2
 ·rw[if_pos h2,if_pos h2]
  refine wpAny_bind (wpAny_pure ?_);rw[StateT.run_pure];refine wpAny_bind (wpAny_pure ?_);dsimp only;refine fin (SortSt.mk' general' (keys.zip vs.toArray) #[] 7 none) (List.Perm.refl _) ?_ rfl;have l1:(keys.zip vs.toArray).toList.length<2:=by simp;omega
  show(keys.zip vs.toArray).toList.Pairwise _
  match(keys.zip vs.toArray).toList,l1 with
  | [],_=>exact .nil
  | [v],_=>exact List.pairwise_singleton _ _
  |_::_::_,l1=>simp at l1;omega
 ·rw[if_neg h2,if_neg h2]
  refine wpAny_bind (hkk ⋯ ?_);refine wpAny_bind (wpAny_mono (wO (a₀:=keys.zip vs.toArray) (kd:=kd) (r:=r) (C ⋯) (st:=SortSt.mk' kd (keys.zip vs.toArray) #[] 7 none)
   (Q:=λ_ st'=>SB (keys.zip vs.toArray) kd st'/\(arrOf st').toList.Pairwise (ia r)) ⟨List.Perm.refl _,rfl,rfl⟩ rfl (by rw[zs];omega) (λst' q1 q2=>⟨q1,q2⟩) _ rfl) ?_ λ_ _ e=>e)
  rintro⟨⟨⟩,st'⟩ s' ⟨rfl,B,hpw⟩;exact fin st' B.perm hpw B.failed
theorem Ay{a:Addr}{f:Value}{vs:KL}{n:Nat}{P:Fin->Shared->Prop}(ho:s.heap.get? a=some (seqObj "list" vs.toArray n))(hz:vs.length<=sizeLine)(I:Nat->Array Value->Shared->Prop){e1:Nat}
  (ho1:(s.heap.update a (Obj.mapSeq λ_=>(#[]:Array Value))).get? a=some (seqObj "list" #[] e1)) (h0:I 0 #[] {s with heap:=sort1 s.heap a vs})
  (hI:∀i kA s',I i kA s'->kA.size=i/\s'.heap.get? a=some (seqObj "list" #[] e1)/\∃e,s'.heap.get? (s.heap.objs.size+1)=some (seqObj "list" kA e))
  (step:∀i x kA s',vs[i]?=some x->I i kA s'->wpAny (model prog w) A (call f [x]) (λv s2=>(∃e,s2.heap.get? (s.heap.objs.size+1)=some (seqObj "list" kA e)) /\
   I (i+1) (kA.push v) {s2 with heap:=s2.heap.update (s.heap.objs.size+1) (Obj.mapSeq (·.push v))}) (λ_ _=>False) s')
  (fin:∀keys s',I vs.length keys s'->∃(kd:SortKind) (r:Keyed->Nat),(2<=vs.length->∀{Q:SortKind->Shared->Prop},Q kd s'->wpAny (model prog w) A (keyKind' keys) Q E s') /\
   (2<=vs.length->tH prog w A (· = s') (keys.zip vs.toArray) kd r) /\
   ∀ps:List Keyed,ps.Perm (keys.toList.zip vs)->ps.Pairwise (ia r)->P (.done (.ret .none)) {s' with heap:=keyEnd s'.heap a (s.heap.objs.size+1) (ps.map (·.2)).toArray}) :
  wpAny (model prog w) A (ksk_tree a f false) P E s:=by
 have ha:a<s.heap.objs.size:=J' ho;unfold ksk_tree;refine wpAny_bind (listItems_at ho rfl (wpAny_bind (listUpdate_at ho rfl ?_)));refine wpAny_bind (seqEpoch_at ho1 rfl (wpAny_bind (wpAny_newTuple (wpAny_bind (wpAny_newList (wpAny_holding ?_))))));show wpAny (model prog w) A _ P E {s with heap:=sort1 s.heap a vs};have ek:((s.heap.update a (Obj.mapSeq λ_=>(#[]:Array Value))).push (seqObj "tuple" vs.toArray 0)).objs.size=s.heap.objs.size+1:=by rw[size_push',Heap.size_update]
 show wpAny (model prog w) A (ksk_rest a f false vs.toArray e1 (.ref ((s.heap.update a (Obj.mapSeq λ_=>(#[]:Array Value))).push (seqObj "tuple" vs.toArray 0)).objs.size)) P E _;rw[ek];unfold ksk_rest;refine wpAny_bind (wpAny_rule ?_);rw[<- Array.forIn_toList];refine wpAny_bind (ksk_fold (λi s'=>∃kA,I i kA s') vs 0 _ ⟨#[],h0⟩ ?step ?done)
 case step=>
  rintro j x s' hx ⟨kA,hi⟩;simp only[Nat.zero_add]at hi ⊢;have hj:j<vs.length:=(JK.mp hx).1;obtain⟨q1,_,_⟩:=hI _ _ _ hi;refine wpAny_bind (wpAny_attempt (wpAny_mono (step j x kA s' hx hi) (λv s2 he=>?_) λ_ _ hF=>hF.elim));obtain⟨⟨e,hk⟩,pr⟩:=he;dsimp only;refine wpAny_bind (listUpdate_at hk rfl ?_ ⋯ (Kd (Nat.le_of_eq (Array.size_push ..)) ⋯));exact wpAny_pure ⟨rfl,_,pr⟩
 case done=>
  rintro s' ⟨kA,hi⟩;rw[Nat.zero_add]at hi;obtain⟨q1,q2,e,q3⟩:=hI _ _ _ hi;obtain⟨kd,r,f1,f2,f3⟩:=fin _ _ hi;refine wpAny_bind (listItems_at q3 rfl ?_);exact Cz (J4 (Nat.lt_succ_of_lt ha)) q3 q2 hz q1 f1 f2 f3
end
theorem TupI.one{h:Heap}{v:Value}{k m:Int×List Str}(h1:TupI h v k)(h2:TupI h v m):k=m:=by
 obtain⟨a,o,n,l,ys,t,rfl,ho,_,hd,hl,q1⟩:=h1;obtain⟨a2,o2,n2,l2,zs,u,e,ho2,_,hd2,hl2,q2⟩:=h2;cases e;rw[ho]at ho2;cases ho2
 rw[hd]at hd2;have e1:k.1=m.1:=by injection hd2 with q;injection q with q;injection q with q _;injection q
 have e2:l=l2:=by injection hd2 with q;injection q with q;injection q with _ q;injection q with q _;injection q
 subst e2;obtain⟨o3,ho3,_,n3,hd3⟩:=hl;obtain⟨o4,ho4,_,n4,hd4⟩:=hl2;rw[ho3]at ho4;cases ho4
 rw[hd3]at hd4;cases hd4
 exact Prod.ext e1 (by rw[<- q1.strs,<- q2.strs])
open Classical in
def Jk(h:Heap)(p:Keyed):List (List Nat):=if q:∃ss,Ei h p.1 ss then ks q.choose else[]
open Classical in
def keyI(h:Heap)(p:Keyed):Int×List (List Nat):=if q:∃k,TupI h p.1 k then(q.choose.1,ks q.choose.2) else(0,[])
theorem keyI_eq{h:Heap}{p:Keyed}{k:Int×List Str}(q:TupI h p.1 k):keyI h p=(k.1,ks k.2):=by
 have ex:∃k,TupI h p.1 k:=⟨k,q⟩;unfold keyI;rw[dif_pos ex,ex.choose_spec.one q]
section
variable {prog:KP}{w:KS}{A:KR}{E:KF}{s:KJ}
theorem cmp_I{a₀:PA}(hu:A.units<cLine)(h:∀p,p∈a₀.toList->∃k,TupI s.heap p.1 k):tH prog w A (· = s) a₀ (tuples' true) (rk ordI (keyI s.heap) a₀.toList):=by
 intro x hx y hy s' j;cases j;obtain⟨k,q1⟩:=h x hx;obtain⟨m,q2⟩:=h y hy;refine DC hu q1 q2 ⟨rfl,?_⟩;rw[<- DV (O:=ordI) (f:=keyI s.heap) (y:=y) hx,keyI_eq q1,keyI_eq q2]
theorem Gx{vs:KL}{Q:SortKind->Shared->Prop}(h:∀v,v∈vs->∃x ss,Ei s.heap v (x::ss))(h0:0<vs.length)(hq:Q (tuples' true) s):wpAny (model prog w) A (keyKind' vs.toArray) Q E s:=by
 have:∃fs,KatTups s.heap vs fs/\fs.length=vs.length/\∀v,v∈fs->∃x t,v=Value.str x t:=by
  clear h0 hq
  induction vs with
  |nil=>exact⟨[],trivial,rfl,λv hv=>nomatch hv⟩
  |cons v vs ih=>
   obtain⟨fs,t,l,q⟩:=ih λu hu=>h u (J1 _ hu);obtain⟨x,ss,a,o,xs,n,rfl,ho,hc,hd,hs⟩:=h v (List.mem_cons_self ..);obtain⟨xs⟩:=xs;cases hs with
   |cons x tk hs'=>
    refine⟨.str x tk::fs,KatTups.cons ho hc hd rfl t,by simp[l],λu hu=>?_⟩;rcases J0.mp hu with rfl | hu
    ·exact⟨_,_,rfl⟩
    ·exact q u hu
 obtain⟨fs,t,l,q⟩:=this;refine kat_kind (T:=.type "str") t ⋯ (λv hv=>?_) (by rfl) hq;obtain⟨x,tk,rfl⟩:=q v hv;exact .now
theorem kind_I{vs:KL}{Q:SortKind->Shared->Prop}(h:∀v,v∈vs->∃k,TupI s.heap v k)(h0:0<vs.length)(hq:Q (tuples' true) s):wpAny (model prog w) A (keyKind' vs.toArray) Q E s:=by
 have:∃fs,KatTups s.heap vs fs/\fs.length=vs.length/\∀v,v∈fs->∃x t,v=Value.int x t:=by
  clear h0 hq
  induction vs with
  |nil=>exact⟨[],trivial,rfl,λv hv=>nomatch hv⟩
  |cons v vs ih=>
   obtain⟨fs,t,l,q⟩:=ih λu hu=>h u (J1 _ hu);obtain⟨k,a,o,n,ll,ys,tk,rfl,ho,hc,hd,hl,hs⟩:=h v (List.mem_cons_self ..);refine⟨.int k.1 tk::fs,KatTups.cons ho hc hd rfl t,by simp[l],λu hu=>?_⟩;rcases J0.mp hu with rfl | hu
   ·exact⟨_,_,rfl⟩
   ·exact q u hu
 obtain⟨fs,t,l,q⟩:=this;refine kat_kind (T:=.type "int") t ⋯ (λv hv=>?_) (by rfl) hq;obtain⟨x,tk,rfl⟩:=q v hv;exact .now
end
end TS
namespace L2
open PySem PySem.Spec PyProof.Rows
theorem uG{α β:Type}{f:α->β}{l l':List β}(h:l.Perm l'):∀m:List α,l'=m.map f->∃m':List α,m'.Perm m/\l=m'.map f:=by
 induction h with
 |nil=>intro m e;exact⟨m,List.Perm.refl _,e⟩
 |cons x _ ih=>
  intro m e;cases m with
  |nil=>exact nomatch e
  |cons y m=>
   obtain⟨e1,e2⟩:=List.cons.inj e;obtain⟨m',p,q⟩:=ih m e2;exact⟨y::m',p.cons y,by rw[q,e1];rfl⟩
 |swap x y l=>
  intro m e
  match m,e with
  |a::b::m,e=>
   obtain⟨e1,e2⟩:=List.cons.inj e;obtain⟨e3,e4⟩:=List.cons.inj e2;exact⟨b::a::m,List.Perm.swap a b m,by rw[e1,e3,e4];rfl⟩
 |trans _ _ ih1 ih2=>
  intro m e;obtain⟨m1,p1,q1⟩:=ih2 m e;obtain⟨m2,p2,q2⟩:=ih1 m1 q1;exact⟨m2,p2.trans p1,q2⟩
theorem xZ{h:Heap}{a b:Addr}{vs:KL}{o:Obj}(hb:h.get? b=some o)(hne:b≠a):(TS.sort1 h a vs).get? b=some o:=by
 unfold TS.sort1;refine JL _ (JL _ ?_);rw[Heap.get?_update_ne _ _ _ _ hne];exact hb
def FI(K:KG)(H:Hp)(x:V)(k:Int×List Str):Prop:=∃a l,x=.ref a/\jv K H a [.int k.1,.ref l]/\aQ K H l (k.2.map V.str)
section
variable {X:Cx}
theorem Inv.pair{pins:KH}{σ:St}{H:Hp}{s:KJ}(I:Inv X pins σ H s){x:V}{k:Int×List Str}{u:Value}(h:FI X.K H x k)(r:bf x u):TS.TupI s.heap u k:=by
 obtain⟨a,l,rfl,ht,hl⟩:=h;obtain rfl:u=Value.ref a:=r;obtain⟨its,r1,⟨o,ho,hc,n,hd⟩,_⟩:=I.tuple ht;obtain⟨js,r2,pl,_⟩:=I.list hl;cases r1 with
 |cons q1 r1=>
  cases r1 with
  |cons q2 r1=>
   cases r1;obtain⟨t,rfl⟩:=q1;obtain rfl:=q2;exact⟨a,o,n,l,_,t,rfl,ho,hc,hd,pl.isList,by simpa using gF r2⟩
abbrev kI(k:Int×List Str):Int×List (List Nat):=(k.1,TS.ks k.2)
end
@[reducible] def HD:KeyOrd where
 α:=Int
 blt a b:=decide (a<b)
 irrefl a:=by simp
 trans a b c h1 h2:=by simp only[decide_eq_true_eq]at *;omega
 negTrans a b c h:=by simp only[decide_eq_true_eq]at *;omega
 total a b h1 h2:=by simp only[decide_eq_false_iff_not]at *;omega
end L2
namespace TS
open PySem PyProof.Rows PySem.W
section
variable {prog:KP}{w:KS}{A:KR}{E:KF}{s:KJ}{T:String}{r d:Addr}{n:Nat}{P:Nat->Value->Prop}{OK:Heap->Prop}
theorem collect_src{Q:List Value->Shared->Prop}(K:KdlSrc prog w T r d n P OK)(hh:A.handled=none)(hok:OK s.heap)(hn:n<=sizeLine)
  (h:∀h' tk (acc':Array Value),(∀b o,s.heap.get? b=some o->h'.get? b=some o)->ItemsOf P acc' n->Q acc'.toList {s with heap:=h',toks:=tk}) :
  wpAny (model prog w) A (collect (.ref r)) Q E s:=by
 have hlt:=K.there _ hok;unfold collect;refine wpAny_bind (wpAny_runValue (codeAny_builtin entry_proto_collect' (show wpAny _ _ (do again (.builtin "list.__iadd__" ⟨[<- newList [],.ref r],[]⟩)) _ _ s from wpAny_bind (wpAny_newList (wpAny_pure ⟨Code.quiet_builtin _ (by decide +kernel),codeAny_builtin entry_list_iadd' ?_⟩)))));show wpAny _ _ (Builtin.List.listExtendWith (.ref s.heap.objs.size) (.ref r) (.ref s.heap.objs.size)) _ _ {s with heap:=s.heap.push (seqObj "list" #[] 0)};rw[Around.under_plainId (show plainId "list.__iadd__"=true by decide +kernel) _];refine wpAny_mono (kdl_extend (s:={s with heap:=s.heap.push (seqObj "list" #[] 0)}) (R:=λres s'=>res=.ok (.ret (.ref s.heap.objs.size))/\∃h' tk acc' c',s'={s with heap:=h',toks:=tk}/\(∀b o,s.heap.get? b=some o->h'.get? b=some o) /\
   h'.get? s.heap.objs.size=some {cls:=.type "list",dict:=none,data:=.seq acc' c',slots:=#[]}/\ItemsOf P acc' n) K hh (K.keep _ _ hok λb _ o e=>JL _ e) s.heap.objs.size (Nat.ne_of_gt hlt.1) (Nat.ne_of_gt hlt.2) (.ref s.heap.objs.size) 0 (JR _ rfl)
  (λh' tk acc' c' hk hS' hacc=>⟨rfl,h',tk,acc',c',rfl,λb o hb=>hk b o (J4 (J' hb)) (JL _ hb),hS',hacc⟩) hn) (λfin s' hf=>?_) λe s' he=>?_
 ·have go:∀(res:Result) (s':KJ),(res=.ok (.ret (.ref s.heap.objs.size))/\∃h' tk acc' c',s'={s with heap:=h',toks:=tk}/\(∀b o,s.heap.get? b=some o->h'.get? b=some o) /\
    h'.get? s.heap.objs.size=some {cls:=.type "list",dict:=none,data:=.seq acc' c',slots:=#[]}/\ItemsOf P acc' n) ->
    match res with
    |Except.ok (Flow.ret v)=>wpAny (model prog w) A (match v with
      |Value.ref a=>do
       let o <- load a
       match o.data with
        |Data.seq xs epoch=>pure xs.toList
        |x=>unsupported "internal:collect"
      |x=>unsupported "internal:collect") Q E s'
    |Except.ok a=>False
    |Except.error e=>E e s':=by
   rintro res s' ⟨rfl,h',tk,acc',c',rfl,hk,hS',hacc⟩;exact wpAny_bind (wpAny_load hS' (wpAny_pure (h h' tk acc' hk hacc)))
  cases fin with
  |done f=>exact go _ _ hf
  |again c'=>exact⟨hf.1,codeAny_mono hf.2 λres s2 hr=>go res s2 hr⟩
 ·exact nomatch he.1
end
section
variable {prog:KP}{w:KS}{A:KR}{E:KF}{s:KJ}
def KeyRun(prog:KP)(w:KS)(A:KR)(E:KF)(q:Addr)(Q:KF)(vs:KL)(s2:KJ):Prop:=
 vs.length<=sizeLine/\∀e1,((with1 s2 vs).update s2.heap.objs.size (Obj.mapSeq λ_=>(#[]:Array Value))).get? s2.heap.objs.size=some (seqObj "list" #[] e1)->∀kS,kS=(with1 s2 vs).objs.size+1 ->
   ∃(I:Nat->Array Value->Shared->Prop),I 0 #[] {s2 with heap:=sort1 (with1 s2 vs) s2.heap.objs.size vs} /\
  (∀i kA s',I i kA s'->kA.size=i/\s'.heap.get? s2.heap.objs.size=some (seqObj "list" #[] e1)/\∃e,s'.heap.get? kS=some (seqObj "list" kA e)) /\
  (∀i x kA s',vs[i]?=some x->I i kA s'->wpAny (model prog w) A.in1.in1 (call (.ref q) [x]) (λv s3=>(∃e,s3.heap.get? kS=some (seqObj "list" kA e))/\I (i+1) (kA.push v) {s3 with heap:=s3.heap.update kS (Obj.mapSeq (·.push v))}) (λ_ _=>False) s') /\
  (∀keys s',I vs.length keys s'->∃(kd:SortKind) (r:Keyed->Nat),(2<=vs.length->∀(Q:SortKind->Shared->Prop),Q kd s'->wpAny (model prog w) A.in1.in1 (keyKind' keys) Q E s')/\(2<=vs.length->tH prog w A.in1.in1 (· = s') (keys.zip vs.toArray) kd r) /\
   ∀ps:List Keyed,ps.Perm (keys.toList.zip vs)->ps.Pairwise (ia r)->Q (.ref s2.heap.objs.size) {s' with heap:=keyEnd s'.heap s2.heap.objs.size kS (ps.map (·.2)).toArray})
theorem sorted_key{v:Value}{q:Addr}{Q:KF}(hc:wpAny (model prog w) A.in1 (collect v) (KeyRun prog w A E q Q) E s) :
  wpAny (model prog w) A (call (.builtin "sorted") [v] [(Str.ofString "key",.ref q)]) Q E s:=by
 refine call_function_entry_kw kind_sorted plain_sorted entry_sorted (ksk_s1 _ _) ?_;unfold Builtin.«sorted»;refine wpAny_bind (m:=checkCount "sorted" 1 1 _) (wpAny_pure ?_)
 refine wpAny_bind (wpAny_mono hc (λvs s2 ⟨hz,h⟩=>?_) λ_ _ e=>e);refine wpAny_bind (wpAny_newList ?_ (hsz:=by omega));have hoL:(with1 s2 vs).get? s2.heap.objs.size=some (seqObj "list" vs.toArray 0):=JR _ rfl;show wpAny _ _ _ _ _ {s2 with heap:=with1 s2 vs};obtain⟨e1,ho1⟩:=Dj hoL;obtain⟨I,h0,hI,st,fin⟩:=h e1 ho1 _ rfl;refine wpAny_bind (wpAny_holding (wpAny_call_entry_kw slot_list_sort ⟨_,hoL,rfl⟩ entry_list_sort ?body (ksk_l1 _ _)))
 case body=>
  show wpAny (model prog w) A.in1.in1 (Builtin.«list.sort» ⟨[.ref s2.heap.objs.size],[(Str.ofString "key",.ref q)]⟩) _ _ _;rw[ksk_t1];refine Ay (s:={s2 with heap:=with1 s2 vs}) hoL hz I ho1 h0 hI st λkeys s' hi=>?_;obtain⟨kd,r,f1,f2,f3⟩:=fin keys s' hi;exact⟨kd,r,λh2 {Q} hq=>f1 h2 Q hq,f2,λps p1 p2=>⟨_,rfl,wpAny_pure ⟨_,rfl,f3 ps p1 p2⟩⟩⟩
end
end TS
namespace L2
open PySem PySem.Spec PyProof.Rows QL
abbrev tZ(p a:Addr):HO:=.ext λh=>h.IsValuesView p a
section
variable {X:Cx}{pins:KH}{σ:St}{H:Hp}{s:KJ}{h':Heap}
theorem Inv.adopt{t':Nat}{a:Addr}{o:HO}(I:Inv X pins σ H s)(k:∀b u,b≠a->s.heap.get? b=some u->h'.get? b=some u)(hn:H a=none)(hL:a≠X.env.locals)
  (h1:X.s₀.heap.objs.size<=a) (h2:∀x c,X.env.cells.lookup x=some c->c≠a) (h3:∀p∈X.pn++pins,p.1≠a) (new:bN X.prog X.w (aC H a o) h' a o):Inv X pins σ (aC H a o) {s with heap:=h',toks:=t' }:=by
 have nit:∀b u,H b=some u->b≠a:=λb u e z=>by rw[z,hn]at e;cases e
 have sm:∀b u,H b=some u->aC H a o b=some u:=λb u e=>by rw[ai (nit b u e)];exact e
 refine I.step (g':=s.gens) (d':=s.drawn) (ch:=[a]) (λb hb=>?_) (λb o _ _ hc e _=>k b o (λz=>hc (by simp[z])) e) (λb o _ _ hc e _=>⟨o.slots,k b o (λz=>hc (by simp[z])) e⟩) (λb _ hc _ n=>by rw[ai (λz=>hc (by simp[z]))];exact n)
  (λb o hc e=>⟨o,k b o (λz=>hc (by simp[z])) e⟩) (λb xs e=>sm _ _ e) (λb _ _ e=>sm _ _ e) (λb ps e=>⟨#[],by rw[sm _ _ e];simp⟩) (λm hm=>?_) (λb u e=>?_) I.bare
 ·have e:b=a:=by simpa using hb
  subst e;exact⟨.inr h1,hL,h2,h3⟩
 ·obtain⟨o,es,ep,ho,r⟩:=hm
  exact⟨o,es,ep,k _ o (Ne.symm hL) ho,r⟩
 ·by_cases hb:b=a
  ·subst hb;rw[ae]at e;cases e;exact new
  ·rw[ai hb]at e
   refine(I.hok b u e).stay (λc v hc q=>k c v ?_ q) (λc q=>sm _ _ q) λc xs q=>sm _ _ q;rcases hc with z | z
   ·rw[z];exact hb
   ·exact nit c _ z
end
section
variable {X:Cx}{o:Expr}{apos cpos:Pos}{td:TE}
def wN(td:TE):TE:=λσ H Q=>td σ H λx H1=>∃a kvs,x=.ref a/\H1 a=some (.dK kvs)/\∀p,H1 p=none->Q (.ref p) (aC H1 p (tZ p a))
theorem An(ho:PE X o td)(hb:attributeBase o "values" X.env (eval o X.env)=eval o X.env)(hl:(apos.endLine==cpos.line)=true):PE X (.Call (.Attribute o "values" apos) [] [] cpos) (wN td):=by
 intro pins s σ H Q I h;refine wpAny_Call_method0_late hb hl (bU (ho pins s σ H _ I h) λu s1 ⟨x,H1,I1,rx,a,kvs,ex,hd,q1⟩=>?_);subst ex;obtain rfl:u=Value.ref a:=rx;obtain⟨t1,t2,t3⟩:=wG I1 (.inl ⟨kvs,.inl hd⟩);refine⟨"dict",_,PySem.F.plainAttrs_dict,PySem.F.slot_dict_values,PySem.F.type_dict_values,t1,t2,?_⟩;refine Calls.callWith_builtin rfl (evalArgs_nil3 ?_);obtain⟨z,hd',vs,rel,dd⟩:=ql I1.hok hd;refine call_meetsIn PySem.F.slot_dict_values dd.typeIs PySem.F.entry_dict_values (PySem.F.args_dict_values_1 _) (meets_dict_values (bM X.prog X.w) a hd') ⟨⟨_,dd⟩,?_⟩;refine⟨.ref s1.heap.objs.size,aC H1 s1.heap.objs.size (tZ s1.heap.objs.size a),I1.laid (t':=s1.toks) (λb u e=>JL _ e) (J8 _) ?_,rfl,q1 _ (I1.hok.fresh (J8 _))⟩;refine⟨⟨_,JR _ rfl,rfl,rfl⟩,⟨_,JR _ rfl⟩,?_⟩;rintro h1 h2 ⟨o,ho,x⟩ k;exact⟨o,k o ho,x⟩
end
end L2
namespace L2
open PySem PySem.Spec PyProof.Rows QL PySem.W
theorem oq{α β:Type}{F:α->β->Prop}:∀{l₁:List α} {l₂:List β} {i:Nat} {a:α},Paired F l₁ l₂->l₁[i]?=some a->∃b,l₂[i]?=some b/\F a b
 |_,_,_,_,.nil,e=>by simp at e
 |_,_,0,_,.cons r _,e=>by simp at e;subst e;exact⟨_,rfl,r⟩
 |_,_,i+1,a,.cons _ t,e=>by
  obtain⟨u,h1,h2⟩:=oq (i:=i) (a:=a) t (by simpa using e);exact⟨u,by simpa using h1,h2⟩
abbrev VE:=cC×Addr×List Str
abbrev GK(e:VE):cC×V:=(e.1,.ref e.2.1)
abbrev Bg(e:VE):V:=.ref e.2.1
def gb(g:List Str->Int)(zs:List VE):Prop:=zs.Pairwise λa b=>TS.ordI.blt (kI (g b.2.2,b.2.2)) (kI (g a.2.2,a.2.2))=false
section
variable {X:Cx}{pins:KH}{σ:St}{H:Hp}{s:KJ}{k:Nat}{f:Addr}{fd:KO}{ps:KQ}{sp:Sp}{P:List Str->Prop}{g:List Str->Int}{Q:VK}{vs:KL}{es:List VE}
theorem De(F:aR X.prog X.w X.K X.mg X.base bB k f fd ps sp)(hb:dF X.K fd ps [])(hr:cw (k+2) X.A)
  (hsp:∀l ss H Q E,aQ X.K H l (ss.map V.str)->P ss->(∀t,H t=none->Q (.ref t) (aC H t (.tup [.int (g ss),.ref l])))->sp [.ref l] H Q E)
  (I:Inv X pins σ H s) (hl:vs.length=es.length) (hz:es.length<=sizeLine) (hit:∀(i:Nat) (x:Value),vs[i]?=some x->∃e:VE,es[i]?=some e/\x=Value.ref e.2.1)
  (hes:∀e,e∈es->aQ X.K H e.2.1 (e.2.2.map V.str)/\P e.2.2)
  (q:∀zs:List VE,zs.Perm es->gb g zs->∀(H':Hp) (l:Addr),aD H H'->H l=none->H' l=some (.lst (zs.map Bg))->Q (.ref l) H') :
  TS.KeyRun X.prog X.w X.A X.xe f (EP X pins σ Q) vs s:=by
 refine⟨⋯,λe1 ho1 kS hkS=>?_⟩;have hw:(TS.with1 s vs).objs.size=s.heap.objs.size+1:=size_push' ..;rw[hw]at hkS;have nL:∀b,s.heap.objs.size<=b->b≠X.env.locals:=λb hb z=>by have h1:(X.env.locals:Nat)<s.heap.objs.size:=I.lt;rw[<- z]at h1;exact absurd (J3 h1 hb) (Ke _)
 have nF:∀b,s.heap.objs.size<=b->b∉X.fs:=λb hb=>I.nofs hb;have nC:∀b,s.heap.objs.size<=b->∀x c,X.env.cells.lookup x=some c->c≠b:=λb hb x c e z=>by
  obtain⟨v,o,ho,_⟩:=I.cell x c e;have h1:=J' ho;rw[z]at h1;exact absurd (J3 h1 hb) (Ke _)
 have nP:∀b,s.heap.objs.size<=b->∀p∈X.pn++pins,p.1≠b:=λb hb p hp z=>by
  have h1:=J' (I.pin p hp).1;rw[z]at h1;exact absurd (J3 h1 hb) (Ke _)
 have nS:X.s₀.heap.objs.size<=s.heap.objs.size:=I.sz;have fr0:H s.heap.objs.size=none:=I.hok.fresh (J8 _);have pinp:∀{Hi:Hp} {s':KJ} {pins':KH},Inv X (pins++pins') σ Hi s'->∀p∈pins,s'.heap.get? p.1=some p.2/\Hi p.1=none/\p.1≠X.env.locals/\p.1∉X.fs/\∀v,p.2.data≠.cell v:=λJ p hp=>J.pin p (List.mem_append_right _ (List.mem_append_left _ hp));have cellsq:∀(xs:Array Value) (n:Nat) (v),(seqObj "list" xs n).data≠.cell v:=λxs n v z=>by cases z
 refine⟨λi kA s'=>∃(Hi:Hp) (ts:KM) (e:Nat),Inv X (pins++[(s.heap.objs.size,seqObj "list" #[] e1),(kS,seqObj "list" kA e)]) σ Hi s'/\aD H Hi/\kA.toList=ts.map Value.ref/\ts.length=i /\
  (∀(j:Nat) (t:Addr) (ee:VE),ts[j]?=some t->es[j]?=some ee->Hi t=some (.tup [.int (g ee.2.2),.ref ee.2.1])),?_,?_,?_,?_⟩
 ·have I':Inv X pins σ H {s with heap:=TS.sort1 (TS.with1 s vs) s.heap.objs.size vs}:=by
   refine I.kept (t':=s.toks) λb u e=>?_;have:=J' e;exact xZ (JL _ e) (J4 this)
  refine⟨H,[],0,I'.pins_of λp hp=>?_,aD.refl _,rfl,rfl,λj t ee h=>by simp at h⟩;rcases JY.mp hp with hp | hp
  ·exact I'.pin p (List.mem_append_right _ hp)
  ·rcases J0.mp hp with rfl | hp
   ·exact⟨JL _ (JL _ ho1),fr0,nL _ (J8 _),nF _ (J8 _),cellsq _ _⟩
   ·obtain rfl:=JN.mp hp
    refine⟨?_,I.hok.fresh ⋯,nL _ ⋯,nF _ ⋯,cellsq _ _⟩;have es2:(((TS.with1 s vs).update s.heap.objs.size (Obj.mapSeq λ_=>(#[]:Array Value))).push (seqObj "tuple" vs.toArray 0)).objs.size=kS:=by rw[size_push',Heap.size_update,hw];omega
    show(TS.sort1 (TS.with1 s vs) s.heap.objs.size vs).get? kS=_;rw[<- es2];exact JR _ rfl
 ·rintro i kA s' ⟨Hi,ts,e,Ii,sm,hk,hts,hTs⟩
  refine⟨by rw[<- Array.length_toList,hk,JM];exact hts,(Ii.pin (s.heap.objs.size,_) (by simp)).1,e,(Ii.pin (kS,_) (by simp)).1⟩
 ·rintro i x kA s' hx ⟨Hi,ts,e,Ii,sm,hk,hts,hTs⟩
  obtain⟨ee,hee,rfl⟩:=hit i x hx;have mee:ee∈es:=JP hee;have hS:=sm.seq (hes ee mee).1;have sp1:=hsp ee.2.1 ee.2.2 Hi (λv H2=>∃t,v=.ref t/\Hi t=none/\H2=aC Hi t (.tup [.int (g ee.2.2),.ref ee.2.1])) E0 hS (hes ee mee).2 λt ht=>⟨t,rfl,ht,rfl⟩;refine wpAny_call (codeAny_mono (F.run X.A.in1.in1 X.stack s' Hi ⟨[.ref ee.2.1],[]⟩ [.ref ee.2.1] [.ref ee.2.1] _ E0 (hr.in1.in1) Ii.env0.in1.in1 (hb s' [.ref ee.2.1] Ii.kIn (by have:=F.len _ _ _ _ sp1;simpa using this)) (.cons rfl .nil) sp1) λr s2 hq=>?_);cases r with
  |error e=>exact hq
  |ok fl=>
   cases fl with
   |next=>exact False.elim hq
   |brk=>exact False.elim hq
   |cont=>exact False.elim hq
   |ret u=>
    obtain⟨v,H2,I2,rv,t,rfl,ht,rfl⟩:=Ii.after hq;obtain rfl:u=Value.ref t:=rv;have p0:=I2.pin (s.heap.objs.size,seqObj "list" #[] e1) (by simp);have pk:=I2.pin (kS,seqObj "list" kA e) (by simp);have Ia:Inv X (pins++[(s.heap.objs.size,seqObj "list" #[] e1)]) σ (aC Hi t (.tup [.int (g ee.2.2),.ref ee.2.1])) s2:=I2.pins_of λp hp=>by
     rcases JY.mp hp with hp | hp
     ·exact pinp I2 p hp
     ·obtain rfl:=JN.mp hp;exact p0
    have Ib:=Ia.turned (t':=s2.toks) (h':=s2.heap.update kS (Obj.mapSeq (·.push (Value.ref t)))) (λb o hb e=>(Heap.get?_update_ne _ _ _ _ hb).trans e) pk.2.1 (nL _ ⋯) (.inr ⋯) (nC _ ⋯) (λp hp=>by
     rcases JY.mp hp with hp | hp
     ·exact nP _ ⋯ p (List.mem_append_left _ hp)
     ·rcases JY.mp hp with hp | hp
      ·exact nP _ ⋯ p (List.mem_append_right _ hp)
      ·obtain rfl:=JN.mp hp;show s.heap.objs.size≠kS;omega)
    obtain⟨e',he'⟩:∃e',(s2.heap.update kS (Obj.mapSeq (·.push (Value.ref t)))).get? kS=some (seqObj "list" (kA.push (Value.ref t)) e'):=⟨_,get?_update_seq pk.1 _⟩;refine⟨⟨e,pk.1⟩,aC Hi t (.tup [.int (g ee.2.2),.ref ee.2.1]),ts++[t],e',Ib.pins_of λp hp=>?_,sm.trans (aj ht),by simp[hk],by simp[hts],λj u e2 h1 h2=>?_⟩
    rotate_right
    ·by_cases hj:j<ts.length
     ·rw[J6 hj]at h1
      have q1:=hTs j u e2 h1 h2;rw[ai (av q1 ht)];exact q1
     ·have:j=ts.length:=by have:=(JK.mp h1).1;simp at this;omega
      subst this;rw[List.getElem?_concat_length]at h1;cases h1;rw[hts,hee]at h2;cases h2;exact ae
    ·rcases JY.mp hp with hp | hp
     ·exact Ib.pin p (List.mem_append_right _ (List.mem_append_left _ hp))
     ·rcases J0.mp hp with rfl | hp
      ·exact Ib.pin (s.heap.objs.size,_) (by simp)
      ·obtain rfl:=JN.mp hp
       exact⟨he',pk.2.1,nL _ ⋯,nF _ ⋯,cellsq _ _⟩
 ·rintro keys s' ⟨Hi,ts,e,Ii,sm,hk,hts,hTs⟩
  have ez:keys.toList.zip vs=(ts.zip es).map λte=>(Value.ref te.1,Value.ref te.2.2.1):=by
   apply List.ext_getElem
   ·simp[hk];omega
   ·intro i i1 i2
    have h1:i<vs.length:=by rw[List.length_zip]at i1;omega
    obtain⟨ee,hee,hx⟩:=hit i vs[i] (JJ h1);obtain⟨h3,h4⟩:=JK.mp hee;simp only[List.getElem_zip,List.getElem_map,hk,hx,h4]
  have tup:∀te,te∈ts.zip es->TS.TupI s'.heap (Value.ref te.1) (g te.2.2.2,te.2.2.2):=λte hte=>by
   obtain⟨i,hi,e⟩:=List.mem_iff_getElem.mp hte;rw[List.getElem_zip]at e;have h1:i<ts.length:=by rw[List.length_zip]at hi;omega
   have h2:i<es.length:=by rw[List.length_zip]at hi;omega
   have q1:=hTs i ts[i] es[i] (JJ h1) (JJ h2);subst e;exact Ii.pair (x:=.ref ts[i]) ⟨ts[i],es[i].2.1,rfl,jv.of q1,sm.seq (hes _ (JT h2)).1⟩ rfl
  have all:∀v,v∈keys.toList->∃k,TS.TupI s'.heap v k:=λv hv=>by
   rw[hk]at hv;obtain⟨t,ht,rfl⟩:=Kt.mp hv;obtain⟨i,hi,e⟩:=List.mem_iff_getElem.mp ht;refine⟨_,tup (ts[i],es[i]'⋯) ?_ |> λz=>by rw[<- e];exact z⟩;refine List.mem_iff_getElem.mpr ⟨i,by rw[List.length_zip];omega,by rw[List.getElem_zip]⟩
  refine⟨tuples' true,TS.rk TS.ordI (TS.keyI s'.heap) (keys.zip vs.toArray).toList,λh2 Q hq=>?_,λ_=>TS.cmp_I (by have:=hr.un;show X.A.units+1+1<cLine;omega) λp hp=>all p.1 ?_,λps p1 p2=>?_⟩
  ·have:=TS.kind_I (prog:=X.prog) (w:=X.w) (A:=X.A.in1.in1) (E:=X.xe) (vs:=keys.toList) all (by rw[hk,JM];omega) hq
   simpa using this
  ·rw[ksk_zip]at hp
   exact(List.of_mem_zip hp).1
  ·rw[ksk_zip]at p2
   have p3:=TS.ranks_out p1 p2;obtain⟨m',pm,rfl⟩:=uG p1 _ ez;have mm:∀t,t∈m'->t∈ts.zip es:=λt ht=>pm.mem_iff.mp ht;rw[List.pairwise_map]at p3;have p4:gb g (m'.map (·.2)):=by
    unfold gb;rw[List.pairwise_map];refine(List.Pairwise.and_mem.mp p3).imp ?_;rintro x y ⟨hx,hy,hb⟩;rw[TS.keyI_eq (p:=(Value.ref x.1,Value.ref x.2.2.1)) (tup x (mm x hx)),TS.keyI_eq (p:=(Value.ref y.1,Value.ref y.2.2.1)) (tup y (mm y hy))]at hb;exact hb
   have p5:(m'.map (·.2)).Perm es:=(pm.map _).trans (by rw[List.map_snd_zip ⋯]);have qq:=q _ p5 p4;have hl2:(((m'.map (·.2))).map Bg).length<=sizeLine:=by rw[JM,p5.length_eq];exact hz
   have vo:aW ((m'.map (·.2)).map Bg) (m'.map λte=>Value.ref te.2.2.1):=by
    clear p3 p4 p5 qq hl2 mm pm p1 p2
    induction m' with
    |nil=>exact .nil
    |cons t m ih=>exact .cons rfl ih
   have eo:List.map (λx=>x.2) (List.map (λte:Addr×VE=>(Value.ref te.1,Value.ref te.2.2.1)) m')=m'.map λte=>Value.ref te.2.2.1:=by rw[JZ];rfl
   rw[eo];generalize(m'.map λte=>Value.ref te.2.2.1)=out at vo ⊢;generalize(m'.map (·.2)).map Bg=zv at vo qq hl2;clear p3 p4 p5 pm mm p2 p1 eo;have p0:=Ii.pin (s.heap.objs.size,seqObj "list" #[] e1) (by simp);have pk:=Ii.pin (kS,seqObj "list" keys e) (by simp);have Ia:Inv X pins σ Hi s':=Ii.pins_of (pinp Ii);have Ib:=Ia.turned (t':=s'.toks) (h':=s'.heap.update kS (Obj.mapSeq λ_=>(#[]:Array Value))) (λb o hb e=>(Heap.get?_update_ne _ _ _ _ hb).trans e) pk.2.1 (nL _ ⋯) (.inr ⋯) (nC _ ⋯) (nP _ ⋯);have ga:(s'.heap.update kS (Obj.mapSeq λ_=>(#[]:Array Value))).get? s.heap.objs.size=some (seqObj "list" #[] e1):=(Heap.get?_update_ne _ _ _ _ (λz=>by have z2:(s.heap.objs.size:Nat)=s.heap.objs.size+1+1:=Eq.trans z hkS;omega)).trans p0.1;have Ic:=Ib.adopt (t':=s'.toks) (a:=s.heap.objs.size) (o:=.lst zv) (h':=TS.keyEnd s'.heap s.heap.objs.size kS out.toArray) (λb u hb e=>(Heap.get?_update_ne _ _ _ _ hb).trans e) p0.2.1 (nL _ (J8 _)) nS (nC _ (J8 _)) (nP _ (J8 _))
    (show bN X.prog X.w _ _ _ (.lst zv) from⟨hl2,out,_,vo,get?_update_seq ga _⟩)
   exact⟨.ref s.heap.objs.size,_,Ic,rfl,qq _ _ (bQ sm fr0) fr0 ae⟩
end
def rU(K:KG)(P:List Str->Prop)(g:List Str->Int)(t:TA):TE:=λσ H Q=>t σ H λxs H1=>∃(p a:Addr) (es:List VE),xs=[.ref p]/\H1 p=some (tZ p a)/\H1 a=some (.dK (es.map GK))/\(∀e,e∈es->aQ K H1 e.2.1 (e.2.2.map V.str)/\P e.2.2) /\
 ∀zs:List VE,zs.Perm es->gb g zs->∀(H':Hp) (l:Addr),aD H1 H'->H1 l=none->H' l=some (.lst (zs.map Bg))->Q (.ref l) H'
section
variable {X:Cx}{e:Expr}{t:TA}{p fp pos kpos:Pos}{k:Nat}{fx:Str}{ps:KQ}{sp:Sp}{P:List Str->Prop}{g:List Str->Int}
theorem yM(hr:cw (k+2) X.A)(hc:X.calm=true)(hg:Gl X "sorted")(hm:X.mg "sorted"=none)(C:dL X.prog X.w X.K X.mg X.base bB k fx ps sp)(hgf:Gl X fx)
  (hsp:∀l ss H Q E,aQ X.K H l (ss.map V.str)->P ss->(∀t,H t=none->Q (.ref t) (aC H t (.tup [.int (g ss),.ref l])))->sp [.ref l] H Q E) (ha:PA X [e] t) (hdb:autoParam ((fx==("__debug__":Str))=false) zz2._auto_1)
  (he:autoParam (backTo pos (starEach [e] X.env)=(false,eval e X.env)::backTo pos (starEach [] X.env)) zz0._auto_1) (hpl:autoParam ((backTo pos (starEach [e] X.env)).any (·.1)=false) zz0._auto_1)
  (hall:autoParam ((backToKw pos (keywordEach [⟨some "key",.Name fx fp,kpos⟩] X.env)).all (·.1.isSome)=true) zz0._auto_1) (hkw:autoParam ((backToKw pos (keywordEach [⟨some "key",.Name fx fp,kpos⟩] X.env)).any (·.1.isNone)=false) zz0._auto_1)
  (hks:autoParam ((backToKw pos (keywordEach [⟨some "key",.Name fx fp,kpos⟩] X.env)).filterMap (·.1)=[Str.ofString "key"]) zz0._auto_1) :
  PE X (.Call (.Name "sorted" p) [e] [⟨some "key",.Name fx fp,kpos⟩] pos) (rU X.K P g t):=by
 obtain⟨f,fd,F,hmf,hkf,hbf⟩:=C.ex;intro pins s σ H Q I h;have hb:bootBuiltins "sorted"=some (.builtin "sorted"):=by decide +kernel
 refine wpAny_Call_Name_kw (fg I hg hm hb ?_);refine callWith_kw (bU (ha pos pins s σ H _ I h) λus s1 ⟨vs,H1,I1,r,q⟩=>?_) he hpl hall hkw;have hk:PK X [⟨some "key",.Name fx fp,kpos⟩] (mf (tC (.ref f)) pH):=Dr (cY hgf hmf rfl hdb) EY;refine bU (hk pos pins s1 σ H1 (λzs H2=>zs=[.ref f]/\H2=H1) I1 ⟨rfl,rfl⟩) λws s2 ⟨zs,H2,I2,rz,ez,eh⟩=>?_;subst ez eh;rw[hks];obtain⟨p',a,es,rfl,hp,ha',hes,q3⟩:=q;obtain⟨u,rfl,ru⟩:=r.one;cases ru;obtain⟨u2,rfl,ru2⟩:=rz.one;cases ru2;show wpAny _ _ (call (.builtin "sorted") [.ref p'] [(Str.ofString "key",.ref f)]) _ _ _;refine TS.sorted_key ?_;obtain⟨z,hd,vs,rel,dd⟩:=ql I2.hok ha';obtain⟨ep,da⟩:=dd.dictAt;obtain⟨hv,_⟩:=I2.hok _ _ hp;have hlen:vs.length=es.length:=by rw[<- rel.length,JM]
 have hz:es.length<=sizeLine:=by rw[JM]at z;exact z
 refine TS.collect_src (PySem.W.kdl_values (knd:=bM X.prog X.w) (r:=p') (d:=a) (kvs:=vs) (ep:=ep)) (I2.ok.hd hc) ⟨hv,da⟩ ⋯ λh' tk acc' kp hacc=>?_;have I3:=I2.kept (t':=tk) kp;refine De F hbf hr hsp I3 (by rw[Array.length_toList,hacc.1,hlen]) hz (λi x hx=>?_) hes q3;obtain⟨kk,hkk⟩:=hacc.2 i x (by simpa using hx);have hi:i<es.length:=by have:=(JK.mp hkk).1;omega
 refine⟨es[i],JJ hi,?_⟩;have:=oq rel (i:=i) (a:=GK es[i]) (by rw[JO,JJ hi];rfl);obtain⟨b,hb1,_,hb2⟩:=this;rw[hkk]at hb1;cases hb1;exact hb2
end
end L2
namespace Win
abbrev Wn:=List Int
def wn(t l b r:Nat):Wn:=[(t:Int),(l:Int),(b:Int),(r:Int)]
def W4(t l b n:Nat):List Wn:=(List.range n).map λk=>wn t l b (l+1+k)
def W3(c t l n:Nat):List Wn:=(List.range n).flatMap λk=>W4 t l (t+1+k) (c-l)
def W2(r c t n:Nat):List Wn:=(List.range n).flatMap λl=>W3 c t l (r-t)
def W1(r c n:Nat):List Wn:=(List.range n).flatMap λt=>W2 r c t c
def jG(r c:Nat):List Wn:=W1 r c r
theorem CQ(t l b n:Nat):W4 t l b (n+1)=W4 t l b n++[wn t l b (l+1+n)]:=by unfold W4;rw[List.range_succ,JX];rfl
theorem CY(c t l n:Nat):W3 c t l (n+1)=W3 c t l n++W4 t l (t+1+n) (c-l):=by unfold W3;rw[List.range_succ,List.flatMap_append];simp
theorem Dh(r c t n:Nat):W2 r c t (n+1)=W2 r c t n++W3 c t n (r-t):=by unfold W2;rw[List.range_succ,List.flatMap_append];simp
theorem CO(r c n:Nat):W1 r c (n+1)=W1 r c n++W2 r c n c:=by unfold W1;rw[List.range_succ,List.flatMap_append];simp
def lt:Wn->Wn->Bool
 | [],[]=>false
 | [],_::_=>true
 |_::_,[]=>false
 |x::xs,y::ys=>if x=y then lt xs ys else decide (x<y)
def good(r c:Nat):Wn->Bool
 | [t,l,b,x]=>decide (0<=t)&&decide (t<b)&&decide (b<=(r:Int))&&decide (0<=l)&&decide (l<x)&&decide (x<=(c:Int))
 |_=>false
def zR:Wn->List Wn->Bool
 |_,[]=>true
 |a,w::ws=>lt a w&&zR w ws
def check(r c:Nat):Bool:=(jG r c).all (good r c)&&zR [-1,0,0,0] (jG r c)&&((jG r c).length==r*(r+1)/2*(c*(c+1)/2))&&decide ((jG r c).length<=1000)
theorem yk:((List.range 6).all λr=>(List.range 6).all λc=>check (r+1) (c+1))=true:=by decide +kernel
theorem Cr{r c:Nat}(hr0:0<r)(hr:r<=6)(hc0:0<c)(hc:c<=6):check r c=true:=by
 have h:=Ku.mp yk (r-1) (List.mem_range.mpr ⋯);have h2:=Ku.mp h (c-1) (List.mem_range.mpr ⋯);have e1:r-1+1=r:=by omega
 have e2:c-1+1=c:=by omega
 rw[e1,e2]at h2;exact h2
def cut(p:List (List Nat))(t l b x:Nat):List (List Nat):=((p.drop t).take (b-t)).map λrow=>(row.drop l).take (x-l)
end Win
namespace SnM
open PySem L2 aF QL Win
def bF(p:aF):Prop:=∀row∈p,47∉row
theorem zt{p:aF}(h:bF p):bF (mirror p):=by
 intro row hr;obtain⟨x,hx,rfl⟩:=Kt.mp hr;rw[List.mem_reverse];exact h x hx
theorem vy{p:aF}{r c:Nat}(hp:rect p r c)(hr:0<r)(h:bF p):bF (aV p):=by
 intro row hrow;unfold aV at hrow;rw[aU hp hr]at hrow;obtain⟨i,hi,rfl⟩:=Kt.mp hrow;have hi:=List.mem_range.mp hi;intro h47;obtain⟨x,hx,e⟩:=Kt.mp h47;have hx':=List.mem_reverse.mp hx;have hl:=hp.2 x hx';rw[List.getD_eq_getElem?_getD,JJ ⋯,Option.getD_some]at e;exact h x hx' (e▸JT _)
theorem iC:∀(n:Nat) {p:aF} {r c:Nat},rect p r c->0<r->0<c->bF p->bF (aO n p)
 |0,_,_,_,_,_,_,h=>h
 |n+1,p,r,c,hp,hr,hc,h=>by
  have e:aO (n+1) p=aV (aO n p):=(cG 1 n p).symm;rw[e];have hq:=dl n hp hr hc;refine vy hq ?_ (iC n hp hr hc h)
  split<;>assumption
theorem yS{p:aF}{r c:Nat}(hp:rect p r c)(hr:0<r)(hc:0<c)(h:bF p)(t:Nat):bF (turned p t):=by
 unfold turned
 split
 ·exact iC _ (bW hp) hr hc (zt h)
 ·exact iC _ hp hr hc h
theorem EB{p:aF}{t l b x:Nat}(h:bF p):bF (cut p t l b x):=by
 intro row hr;obtain⟨y,hy,rfl⟩:=Kt.mp hr;exact λh47=>h y (List.mem_of_mem_drop (List.mem_of_mem_take hy)) (List.mem_of_mem_drop (List.mem_of_mem_take h47))
theorem cn{p:aF}{r c t l b x:Nat}(hp:rect p r c)(h1:t<b)(h2:b<=r)(h3:l<x)(h4:x<=c):rect (cut p t l b x) (b-t) (x-l):=by
 refine⟨?_,λrow hr=>?_⟩
 ·unfold cut;rw[JM,Kk,Kl,hp.1];omega
 ·obtain⟨y,hy,rfl⟩:=Kt.mp hr
  have:=hp.2 y (List.mem_of_mem_drop (List.mem_of_mem_take hy));rw[Kk,Kl];omega
theorem oP{r c:Nat}{w:Wn}:w∈jG r c↔∃t l b x:Nat,w=wn t l b x/\t<b/\b<=r/\l<x/\x<=c:=by
 unfold jG W1 W2 W3 W4;simp only[List.mem_flatMap,Kt,List.mem_range]
 constructor
 ·rintro⟨t,ht,l,hl,k,hk,m,hm,rfl⟩
  exact⟨t,l,t+1+k,l+1+m,rfl,⋯,⋯,⋯,⋯⟩
 ·rintro⟨t,l,b,x,rfl,h1,h2,h3,h4⟩
  exact⟨t,⋯,l,⋯,b-t-1,⋯,x-l-1,⋯,by rw[show t+1+(b-t-1)=b by omega,show l+1+(x-l-1)=x by omega]⟩
def Ce(p:aF)(w:Wn):aF:=cut p (w.getD 0 0).toNat (w.getD 1 0).toNat (w.getD 2 0).toNat (w.getD 3 0).toNat
theorem m6(p:aF)(t l b x:Nat):Ce p (wn t l b x)=cut p t l b x:=rfl
def bc(p:aF)(r c:Nat)(q:aF):Prop:=∃t l b x u:Nat,t<b/\b<=r/\l<x/\x<=c/\u<8/\q=turned (cut p t l b x) u
theorem zf{p q:aF}{r c:Nat}:bc p r c q↔∃i,i<(jG r c).length/\∃u,u<8/\q=turned (Ce p ((jG r c).getD i [])) u:=by
 constructor
 ·rintro⟨t,l,b,x,u,h1,h2,h3,h4,h5,rfl⟩
  obtain⟨i,hi,e⟩:=List.mem_iff_getElem.mp (oP.mpr ⟨t,l,b,x,rfl,h1,h2,h3,h4⟩);refine⟨i,hi,u,h5,?_⟩;rw[List.getD_eq_getElem?_getD,JJ hi,Option.getD_some,e,m6]
 ·rintro⟨i,hi,u,hu,rfl⟩
  obtain⟨t,l,b,x,e,h1,h2,h3,h4⟩:=oP.mp (JT hi);refine⟨t,l,b,x,u,h1,h2,h3,h4,hu,?_⟩;rw[List.getD_eq_getElem?_getD,JJ hi,Option.getD_some,e,m6]
theorem xE{p:aF}{r c:Nat}(hp:rect p r c)(hn:bF p){t l b x u:Nat}(h1:t<b)(h2:b<=r)(h3:l<x)(h4:x<=c) :
  turned (cut p t l b x) u≠[]/\bF (turned (cut p t l b x) u)/\∃r' c',rect (turned (cut p t l b x) u) r' c'/\0<r'/\0<c'/\r'<=max r c/\c'<=max r c:=by
 have hc:=cn hp h1 h2 h3 h4;have ht:=cV hc ⋯ ⋯ u;refine⟨λe=>?_,yS hc ⋯ ⋯ (EB hn) u,_,_,ht,by split<;>omega,by split<;>omega,by split<;>omega,by split<;>omega⟩;have:=ht.1;rw[e]at this;simp at this
 split at this<;>omega
abbrev AP:=Addr×aF
def EH(z:AP):VE:=(.inr (tx (SpM.glue 47 z.2)),z.1,z.2.map tx)
abbrev jk(z:AP):cC×V:=GK (EH z)
def k_(zs:List AP)(z:AP):List AP:=if(zs.any λz0=>decide (z0.2=z.2))=true then zs.map (λz0=>if z0.2=z.2 then z else z0) else zs++[z]
theorem d8{a b:KI}(h:tx a=tx b):a=b:=by rw[<- dD a,<- dD b,h]
theorem A9{zs:List AP}{z:AP}(inj:∀z0∈zs,SpM.glue 47 z0.2=SpM.glue 47 z.2->z0.2=z.2):di (zs.map jk) (.inr (tx (SpM.glue 47 z.2))) (.ref z.1)=(k_ zs z).map jk:=by
 have key:∀z0∈zs,((jk z0).1=Sum.inr (tx (SpM.glue 47 z.2))↔z0.2=z.2):=λz0 h0=>⟨λe=>inj z0 h0 (d8 (Sum.inr.inj e)),λe=>by show Sum.inr (tx (SpM.glue 47 z0.2))=_;rw[e]⟩;unfold di k_;have e1:((zs.map jk).any λkv=>decide (kv.1=Sum.inr (tx (SpM.glue 47 z.2))))=zs.any λz0=>decide (z0.2=z.2):=by
  rw[List.any_map];clear inj
  induction zs with
  |nil=>rfl
  |cons a l ih=>
   rw[List.any_cons,List.any_cons,ih λz0 h0=>key z0 (J1 _ h0)]
   congr 1
   exact decide_eq_decide.mpr (key a (List.mem_cons_self ..))
 rw[e1]
 split
 ·rw[JZ,JZ]
  refine List.map_congr_left λz0 h0=>?_;show(if(jk z0).1=Sum.inr (tx (SpM.glue 47 z.2)) then((jk z0).1,V.ref z.1) else jk z0)=jk (if z0.2=z.2 then z else z0)
  by_cases h:z0.2=z.2
  ·have hk:=(key z0 h0).mpr h
   rw[if_pos hk,if_pos h,hk]
   rfl
  ·rw[if_neg λq=>h ((key z0 h0).mp q),if_neg h]
 ·rw[JX];rfl
structure fc(H H':Hp)(d:Addr)(dn:aF->Prop)(zs:List AP)(n:Nat):Prop where
 tbl:H' d=some (.dK (zs.map jk))
 sm:aD H H'
 hd:H d=none
 each:∀z∈zs,H z.1=none/\H' z.1=some (.lst (ar z.2))/\z.2≠[]/\bF z.2/\(z.2.headD []).length<=64
 nda:(zs.map (·.1)).Nodup
 ndp:(zs.map (·.2)).Nodup
 mem:∀q,q∈zs.map (·.2)↔dn q
 len:zs.length<=n
theorem fc.step{H H1 H2:Hp}{d b:Addr}{dn:aF->Prop}{zs:List AP}{q:aF}{n:Nat}(S:fc H H1 d dn zs n)(sm:aD H1 H2)(hb:H1 b=none)(hb2:H2 b=some (.lst (ar q)))(hq:q≠[])(ns:bF q)(hl:(q.headD []).length<=64) :
  di (zs.map jk) (.inr (tx (SpM.glue 47 q))) (.ref b)=(k_ zs (b,q)).map jk/\fc H (aC H2 d (.dK ((k_ zs (b,q)).map jk))) d (λx=>dn x\/x=q) (k_ zs (b,q)) (n+1):=by
 refine⟨A9 (z:=(b,q)) λz0 h0 e=>SpM.glue_inj 47 (S.each z0 h0).2.2.1 hq (S.each z0 h0).2.2.2.1 ns e,?_⟩;have nbd:b≠d:=λe=>by rw[e,S.tbl]at hb;cases hb
 have nzd:∀z∈zs,z.1≠d:=λz hz=>p_ (S.each z hz).2.1 S.tbl (by intro e;cases e);have nzb:∀z∈zs,z.1≠b:=λz hz=>av (S.each z hz).2.1 hb;have old:∀z∈zs,H z.1=none/\aC H2 d (.dK ((k_ zs (b,q)).map jk)) z.1=some (.lst (ar z.2))/\z.2≠[]/\bF z.2/\(z.2.headD []).length<=64:=λz hz=>by
  obtain⟨h1,h2,h3⟩:=S.each z hz;exact⟨h1,by rw[ai (nzd z hz)];exact sm _ _ h2,h3⟩
 have new:H b=none/\aC H2 d (.dK ((k_ zs (b,q)).map jk)) b=some (.lst (ar q))/\q≠[]/\bF q/\(q.headD []).length<=64:=⟨S.sm.free hb,by rw[ai nbd];exact hb2,hq,ns,hl⟩
 by_cases h:(zs.any λz0=>decide (z0.2=q))=true
 ·have e:k_ zs (b,q)=zs.map λz0=>if z0.2=q then(b,q) else z0:=by unfold k_;rw[if_pos h]
  have e2:((k_ zs (b,q)).map (·.2))=zs.map (·.2):=by
   rw[e,JZ];refine List.map_congr_left λz0 _=>?_;show(if z0.2=q then(b,q) else z0).2=z0.2
   split
   ·rename_i hz;exact hz.symm
   ·rfl
  obtain⟨z1,hz1,hz2⟩:=List.any_eq_true.mp h;have hz2:=of_decide_eq_true hz2;refine⟨ae,bQ (S.sm.trans sm) S.hd,S.hd,?_,?_,by rw[e2];exact S.ndp,λx=>?_,by rw[e,JM];exact Nat.le_succ_of_le S.len⟩
  ·intro z hz
   have hz':=hz;rw[e]at hz';obtain⟨z0,h0,ez⟩:=Kt.mp hz'
   split at ez
   ·rw[<- ez];exact new
   ·rw[<- ez];exact old z0 h0
  ·rw[e,JZ,List.Nodup,List.pairwise_map]
   have h1:=S.nda;have h2:=S.ndp;rw[List.Nodup,List.pairwise_map]at h1 h2;refine(List.Pairwise.and_mem.mp (h1.and h2)).imp ?_;rintro x y ⟨hx,hy,n1,n2⟩;show(if x.2=q then(b,q) else x).1≠(if y.2=q then(b,q) else y).1
   by_cases c1:x.2=q
   ·rw[if_pos c1,if_neg λc2=>n2 (c1.trans c2.symm)]
    exact(nzb y hy).symm
   ·rw[if_neg c1]
    by_cases c2:y.2=q
    ·rw[if_pos c2];exact nzb x hx
    ·rw[if_neg c2];exact n1
  ·rw[e2,S.mem]
   refine⟨.inl,λz=>z.elim id λz=>?_⟩;rw[<- S.mem,z];exact Kt.mpr ⟨z1,hz1,hz2⟩
 ·have e:k_ zs (b,q)=zs++[(b,q)]:=by unfold k_;rw[if_neg h]
  refine⟨ae,bQ (S.sm.trans sm) S.hd,S.hd,?_,?_,?_,λx=>?_,by rw[e,J7];exact Nat.succ_le_succ S.len⟩
  ·intro z hz
   have hz':=hz;rw[e]at hz';rcases JY.mp hz' with hz' | hz'
   ·exact old z hz'
   ·rw[JN.mp hz'];exact new
  ·rw[e,JX,List.nodup_append]
   refine⟨S.nda,by simp,λa ha c hc=>?_⟩;obtain⟨z,hz,rfl⟩:=Kt.mp ha;have:c=b:=by simpa using hc
   rw[this];exact nzb z hz
  ·rw[e,JX,List.nodup_append]
   refine⟨S.ndp,by simp,λa ha c hc=>?_⟩;obtain⟨z,hz,rfl⟩:=Kt.mp ha;have:c=q:=by simpa using hc
   rw[this];exact λhz2=>h (List.any_eq_true.mpr ⟨z,hz,decide_eq_true hz2⟩)
  ·rw[e,JX,JY,S.mem]
   simp
theorem fc.congr{H H':Hp}{d:Addr}{dn dn':aF->Prop}{zs:List AP}{n:Nat}(S:fc H H' d dn zs n)(h:∀q,dn q↔dn' q):fc H H' d dn' zs n:=⟨S.tbl,S.sm,S.hd,S.each,S.nda,S.ndp,λq=>(S.mem q).trans (h q),S.len⟩
theorem fc.same{H H' H2:Hp}{d:Addr}{dn:aF->Prop}{zs:List AP}{n:Nat}(S:fc H H' d dn zs n)(sm:aD H' H2):fc H H2 d dn zs n:=⟨sm _ _ S.tbl,S.sm.trans sm,S.hd,λz hz=>let ⟨h1,h2,h3⟩:=S.each z hz;⟨h1,sm _ _ h2,h3⟩,S.nda,S.ndp,S.mem,S.len⟩
def fV(ss:KQ):Int:=(ss.length:Int)*((ss.headD ⟨#[]⟩).length:Int)
def ba(p:aF):Nat:=p.length*(p.headD []).length
def G8(a b:aF):Prop:=ba a<ba b\/ba a=ba b/\a<b
def F3(p:aF)(r c:Nat)(qs:List aF):Prop:=(∀q,q∈qs↔bc p r c q)/\qs.Pairwise G8
theorem xM(p:aF):((p.map tx).headD ⟨#[]⟩).length=(p.headD []).length:=by
 cases p with
 |nil=>rfl
 |cons r p=>exact aG r
theorem yF(p:aF):fV (p.map tx)=(ba p:Int):=by
 unfold fV ba;rw[JM,xM];simp
theorem FS(p:aF):TS.ks (p.map tx)=p:=by
 unfold TS.ks;rw[JZ];exact(List.map_congr_left λr _=>dD r).trans (List.map_id _)
theorem D0(p:aF):kI (fV (p.map tx),p.map tx)=((ba p:Int),p):=by
 show(fV (p.map tx),TS.ks (p.map tx))=_;rw[yF,FS]
theorem zh{ws:List AP}(h:gb fV (ws.map EH))(nd:(ws.map (·.2)).Nodup):(ws.map (·.2)).Pairwise G8:=by
 unfold gb at h;rw[List.pairwise_map]at h ⊢;rw[List.Nodup,List.pairwise_map]at nd;refine(h.and nd).imp ?_;rintro a b ⟨hb,ne⟩;have hb:TS.ordI.blt (kI (fV (b.2.map tx),b.2.map tx)) (kI (fV (a.2.map tx),a.2.map tx))=false:=hb;rw[D0,D0]at hb;cases hc:TS.ordI.blt ((ba a.2:Int),a.2) ((ba b.2:Int),b.2) with
 |true=>
  have:=of_decide_eq_true hc;rcases this with h1 | ⟨h1,h2⟩
  ·exact .inl (Int.ofNat_lt.mp h1)
  ·exact .inr ⟨Int.ofNat.inj h1,h2⟩
 |false=>
  have:=TS.ordI.total _ _ hc hb;exact absurd (congrArg Prod.snd this) ne
theorem jJ{p:aF}{r c t l b x i j:Nat}(hp:rect p r c)(h2:b<=r)(h4:x<=c)(hi:i<b-t)(hj:j<x-l):zH (cut p t l b x) i j=zH p (t+i) (l+j):=by
 have h1:t+i<p.length:=by rw[hp.1];omega
 have h3:(p[t+i]).length=c:=hp.2 _ (JT _);have e1:(cut p t l b x).getD i []=((p.getD (t+i) []).drop l).take (x-l):=by
  unfold cut;simp only[List.getD_eq_getElem?_getD];rw[JO,List.getElem?_take_of_lt hi,List.getElem?_drop,JJ h1]
  rfl
 unfold zH;rw[e1];simp only[List.getD_eq_getElem?_getD];rw[List.getElem?_take_of_lt hj,List.getElem?_drop]
theorem wS{p:aF}{r c t l b x:Nat}(hp:rect p r c)(h1:t<b)(h2:b<=r)(h3:l<x)(h4:x<=c):cut (mirror p) t l b x=mirror (cut p t (c-x) b (c-l)):=by
 have hc:=cn hp h1 h2 (show c-x<c-l by omega) (show c-l<=c by omega);refine kF (cn (bW hp) h1 h2 h3 h4) (r:=b-t) (c:=x-l) ?_ λi j hi hj=>?_
 ·have:=bW hc
  rwa [show c-l-(c-x)=x-l by omega]at this
 ·rw[jJ (bW hp) h2 h4 hi hj,iZ hp ⋯ ⋯,iZ hc hi ⋯,jJ hp h2 ⋯ hi ⋯]
  congr 1
  omega
theorem u5{p:aF}{r c t l b x:Nat}(hp:rect p r c)(h1:t<b)(h2:b<=c)(h3:l<x)(h4:x<=r):cut (aV p) t l b x=aV (cut p (r-x) t (r-l) b):=by
 have hc:=cn hp (show r-x<r-l by omega) (show r-l<=r by omega) h1 h2;have hq:=bp hp ⋯;refine kF (cn hq h1 h2 h3 h4) (r:=b-t) (c:=x-l) ?_ λi j hi hj=>?_
 ·have:=bp hc ⋯
  rwa [show r-l-(r-x)=x-l by omega]at this
 ·rw[jJ hq h2 h4 hi hj,cv hp ⋯ ⋯ ⋯,cv hc ⋯ hi ⋯,jJ hp ⋯ h2 ⋯ ⋯]
  congr 1
  omega
theorem gX:∀(n:Nat) {p:aF} {r c t l b x:Nat},rect p r c->t<b->b<=(if n%2=0 then r else c)->l<x->x<=(if n%2=0 then c else r)->∃t' l' b' x',t'<b'/\b'<=r/\l'<x'/\x'<=c/\cut (aO n p) t l b x=aO n (cut p t' l' b' x')
 |0,p,r,c,t,l,b,x,hp,h1,h2,h3,h4=>⟨t,l,b,x,h1,by simpa using h2,h3,by simpa using h4,rfl⟩
 |n+1,p,r,c,t,l,b,x,hp,h1,h2,h3,h4=>by
  have hr:0<r/\0<c:=by
   split at h2<;>split at h4<;>omega
  have e:∀q:aF,aO (n+1) q=aO n (aV q):=λq=>rfl;rw[e];obtain⟨t',l',b',x',k1,k2,k3,k4,k5⟩:=gX n (bp hp hr.1) (t:=t) (l:=l) (b:=b) (x:=x) h1 (by
   by_cases hn:n%2=0
   ·rw[if_neg ⋯]at h2;rw[if_pos hn];exact h2
   ·rw[if_pos ⋯]at h2;rw[if_neg hn];exact h2) h3 (by
   by_cases hn:n%2=0
   ·rw[if_neg ⋯]at h4;rw[if_pos hn];exact h4
   ·rw[if_pos ⋯]at h4;rw[if_neg hn];exact h4)
  refine⟨r-x',t',r-l',b',⋯,⋯,k1,k2,?_⟩;rw[k5,u5 hp k1 k2 k3 k4,e]
theorem vz{p:aF}{r c t l b x u:Nat}(hp:rect p r c)(h1:t<b)(h2:b<=(if u%2=0 then r else c))(h3:l<x)(h4:x<=(if u%2=0 then c else r)):∃t' l' b' x',t'<b'/\b'<=r/\l'<x'/\x'<=c/\cut (turned p u) t l b x=turned (cut p t' l' b' x') u:=by
 have hu:u%4%2=u%2:=by omega
 unfold turned
 by_cases h:4<=u
 ·rw[if_pos h]
  obtain⟨t',l',b',x',k1,k2,k3,k4,k5⟩:=gX (u%4) (bW hp) h1 (by rw[hu];exact h2) h3 (by rw[hu];exact h4);refine⟨t',c-x',b',c-l',k1,k2,⋯,⋯,?_⟩;rw[k5,wS hp k1 k2 k3 k4,if_pos h]
 ·rw[if_neg h]
  obtain⟨t',l',b',x',k1,k2,k3,k4,k5⟩:=gX (u%4) hp h1 (by rw[hu];exact h2) h3 (by rw[hu];exact h4);refine⟨t',l',b',x',k1,k2,k3,k4,?_⟩;rw[k5,if_neg h]
theorem Da{p:aF}{r c t l b x t' l' b' x':Nat}(hp:rect p r c)(h1:t<b)(h2:b<=r)(h3:l<x)(h4:x<=c)(k1:t'<b')(k2:b'<=b-t)(k3:l'<x')(k4:x'<=x-l):cut (cut p t l b x) t' l' b' x'=cut p (t+t') (l+l') (t+b') (l+x'):=by
 have hc:=cn hp h1 h2 h3 h4;have hd:=cn hp (show t+t'<t+b' by omega) ⋯ (show l+l'<l+x' by omega) ⋯;refine kF (cn hc k1 k2 k3 k4) (r:=b'-t') (c:=x'-l') ?_ λi j hi hj=>?_
 ·rwa [show t+b'-(t+t')=b'-t' by omega,show l+x'-(l+l')=x'-l' by omega]at hd
 ·rw[jJ hc k2 k4 hi hj,jJ hp h2 h4 ⋯ ⋯,jJ hp ⋯ ⋯ ⋯ ⋯]
  congr 1<;>omega
theorem Cv{p:aF}{r c:Nat}(hp:rect p r c):cut p 0 0 r c=p:=by
 unfold cut;rw[KD,Nat.sub_zero,Nat.sub_zero,List.take_of_length_le (by rw[hp.1];exact J8 _)]
 conv=>rhs;rw[<- List.map_id p]
 refine List.map_congr_left λy hy=>?_;rw[KD,List.take_of_length_le (by rw[hp.2 y hy];exact J8 _)];rfl
theorem qh{p:aF}{r c n:Nat}(hp:rect p r c):p.take n=cut p 0 0 n c:=by
 unfold cut;rw[KD,Nat.sub_zero,Nat.sub_zero]
 conv=>lhs;rw[<- List.map_id (p.take n)]
 refine List.map_congr_left λy hy=>?_;rw[KD,List.take_of_length_le (by rw[hp.2 y (List.mem_of_mem_take hy)];exact J8 _)];rfl
theorem pZ{p:aF}{r c n:Nat}(hp:rect p r c):p.drop n=cut p n 0 r c:=by
 unfold cut;rw[Nat.sub_zero,List.take_of_length_le (by rw[Kl,hp.1];exact J8 _)]
 conv=>lhs;rw[<- List.map_id (p.drop n)]
 refine List.map_congr_left λy hy=>?_;rw[KD,List.take_of_length_le (by rw[hp.2 y (List.mem_of_mem_drop hy)];exact J8 _)];rfl
theorem qf{p:aF}{r c n:Nat}(hp:rect p r c):(p.map λy=>y.take n)=cut p 0 0 r n:=by
 unfold cut;rw[KD,Nat.sub_zero,Nat.sub_zero,List.take_of_length_le (by rw[hp.1];exact J8 _)]
 rfl
theorem qI{p:aF}{r c n:Nat}(hp:rect p r c):(p.map λy=>y.drop n)=cut p 0 n r c:=by
 unfold cut;rw[KD,Nat.sub_zero,List.take_of_length_le (by rw[hp.1];exact J8 _)];refine List.map_congr_left λy hy=>?_;rw[List.take_of_length_le (by rw[Kl,hp.2 y hy];exact J8 _)]
theorem bc.rect{p q:aF}{r c:Nat}(hp:rect p r c)(h:bc p r c q):∃r' c',rect q r' c'/\0<r'/\0<c'/\r'<=max r c/\c'<=max r c:=by
 obtain⟨t,l,b,x,u,h1,h2,h3,h4,h5,rfl⟩:=h;have hc:=cn hp h1 h2 h3 h4;exact⟨_,_,cV hc ⋯ ⋯ u,by split<;>omega,by split<;>omega,by split<;>omega,by split<;>omega⟩
theorem bc.ns{p q:aF}{r c:Nat}(hp:aF.rect p r c)(hn:bF p)(h:bc p r c q):bF q:=by
 obtain⟨t,l,b,x,u,h1,h2,h3,h4,h5,rfl⟩:=h;exact(xE hp hn h1 h2 h3 h4).2.1
theorem bc.self{p:aF}{r c:Nat}(hp:aF.rect p r c)(r0:0<r)(c0:0<c):bc p r c p:=⟨0,0,r,c,0,r0,J8 _,c0,J8 _,⋯,by rw[lT,Cv hp]⟩
theorem bc.turned{p q:aF}{r c u:Nat}(hp:aF.rect p r c)(h:bc p r c q)(hu:u<8):bc p r c (aF.turned q u):=by
 obtain⟨t,l,b,x,v,h1,h2,h3,h4,h5,rfl⟩:=h;have hc:=cn hp h1 h2 h3 h4;exact⟨t,l,b,x,after v u,h1,h2,h3,h4,gi h5 hu,bC hc ⋯ ⋯ h5 hu⟩
theorem bc.cut{p q:aF}{r c r' c' t l b x:Nat}(hp:aF.rect p r c)(h:bc p r c q)(hq:aF.rect q r' c')(h1:t<b)(h2:b<=r')(h3:l<x)(h4:x<=c'):bc p r c (Win.cut q t l b x):=by
 obtain⟨t0,l0,b0,x0,v,k1,k2,k3,k4,k5,rfl⟩:=h;have hc:=cn hp k1 k2 k3 k4;have ht:=cV hc ⋯ ⋯ v;have er:r'=if v%2=0 then b0-t0 else x0-l0:=by rw[<- hq.1,ht.1]
 have ec:c'=if v%2=0 then x0-l0 else b0-t0:=by
  rw[<- aU hq ⋯,aU ht (by split<;>omega)]
 obtain⟨t',l',b',x',m1,m2,m3,m4,m5⟩:=vz (u:=v) hc h1 (by rw[<- er];exact h2) h3 (by rw[<- ec];exact h4);rw[m5,Da hp k1 k2 k3 k4 m1 m2 m3 m4];exact⟨t0+t',l0+l',t0+b',l0+x',v,⋯,⋯,⋯,⋯,k5,rfl⟩
end SnM
set_option maxHeartbeats 4000000
namespace Q24
open PySem L2 aF QL Win SnM
local macro_rules|`(tactic|walk_at "wp")=>do
 let f(s:String):Lean.MacroM _:=(s.splitOn ",").toArray.mapM λx=>let i:=Lean.mkIdent (x.splitOn "."|>.foldl .mkStr .anonymous);`(Lean.Parser.Tactic.simpLemma|$i:term)
 let g(s:String):Lean.MacroM _:=(s.splitOn ",").toArray.mapM λx=>let i:=Lean.mkIdent (x.splitOn "."|>.foldl .mkStr .anonymous);`(Lean.Parser.Tactic.simpLemma|↓$i:term)
 let c:="yL,tB,Bj,xo,Fa,Cm,zL,BV,xf,C_,tC,Fe,xt,Fd,D5,GQ,zN,BM,wF,qQ,tm,rj,rU,wN,Ew,zV,qP,BG,vI,wj,wv,EF,Dk,xH,qN,tO,A7,AB,wy,re,BP,nw,zM,Ed,rp,E5,EI,Gr,mf,pH,l_,GB,DA,El,GG,GU,D7,GP,sd,zS,ET,EA,F8,GH,wX,rF,CL,BY,Br,Am,Em,EU,xQ,Au,qG,AY,L2.start,Kc,List.map_nil,JW,List.length_nil,List.replicate,List.cons_append,Kx,Nat.reduceAdd,Nat.reduceSub,List.getElem?_cons_zero,Kb,List.set_cons_zero,List.set_cons_succ,eZ,Cx.blk,rK,Ck,Bt,BC,Cx.wish,Cx.nox,Ga,j8";let d<-f (c++",Jv,I8,Iv,IG,HI,H_,Io,IZ,CV,En,zW,BW");let e<-f (c++",Kg,Option.some.injEq,V.int.injEq,V.str.injEq,V.ref.injEq,V.bl.injEq,List.cons.injEq,and_true,true_and,exists_and_left,exists_eq_left',exists_eq_left,decide_eq_true_eq,Bool.not_eq_true',decide_eq_false_iff_not,CM,Option.join_some,Nat.succ_eq_add_one,Nat.zero_add,exists_const,and_assoc,exists_eq,exists_eq',Int.reducePow,Int.reduceNeg,Int.reduceLT,or_true,true_or,reduceCtorEq,Int.zero_add,Bool.false_eq_true,Bool.not_true,Bool.not_false,AM,DQ,xR,xp,Aq,zj,Bl,yu,rI");let h<-g "reduceIte,GI,GL,GS,G6,GE,GF,G4,Gv";let e:=e++h
 `(tactic|((try dsimp only[$d,*]);(try simp only[$e,*])))
set_option hygiene false in
local macro_rules|`(tactic|walk_at "nc")=>`(tactic|(clear h1;refine aw λN1 h1=>?_;walk_at "wp"))
set_option hygiene false in
local macro_rules|`(tactic|walk_at "n")=>`(tactic|(refine aw λN1 h1=>?_;walk_at "wp"))
set_option hygiene false in
local macro_rules|`(tactic|walk_at "o")=>`(tactic|(refine aw λN2 h2=>?_;walk_at "wp"))
set_option hygiene false in
local macro_rules|`(tactic|walk_at "f")=>`(tactic|refine F.ok sc (λvs H Q E h=>?_) (λcdv A outer s H vs Q E hr h=>?_))
set_option hygiene false in
local macro_rules|`(tactic|walk_at "x")=>`(tactic|refine F.okX sc (λvs H Q E h=>?_) (λcdv A outer s H vs Q E hr h=>?_))
set_option hygiene false in
local macro_rules|`(tactic|walk_at "c")=>`(tactic|exact⟨rfl,rfl,rfl,by decide +kernel,rfl,by decide +kernel,by decide +kernel⟩)
def gW(i:Nat):Stmt:=PySem.Challenge.pw_quiltlaw_k24_costs_of_sheets.main.body.getD i (.Pass ⟨0,0,0,0⟩)
def B_:Stmt->List Stmt
 | .ClassDef (body:=b) ..=>b
 |_=>[]
def ib(i j:Nat):Stmt:=(B_ (gW i)).getD j (.Pass ⟨0,0,0,0⟩)
section
variable {P:KP}{w:KS}{K:W.Frag}{mg:KN}{base:Heap}
abbrev Fx(z:Str)(c:Nat):Bool:=!(Builtin.Str.occurrences z ⟨#[c]⟩ 0 z.length 1).isEmpty
abbrev kY:Stmt:=gW 34
def jp(r:KI)(z:Str):Bool:=r.all (Fx z)
inductive gZ(vs:List V)(H:Hp)(Q:VK)(_E:XK):Prop
 |mk (r:KI) (z:Str) (_:vs=[.str (tx r),.str z]) (_:r.length<=100000) (_:∀H',aD H H'->Q (.bl (jp r z)) H')
theorem wL:aB ["text","letters"] ["text","letters"] (ak kY):=by walk_at "c"
theorem IE{r:KI}{i c:Nat}(h:(tx r).cps[i]?=some c):r[i]?=some c:=by
 rw[<- h];show r[i]?=r.toArray[i]?;simp
theorem GY(r:KI):(tx r).cps.size=r.length:=by show r.toArray.size=_;simp
theorem wC{f:Addr}{fd:KO}(F:dw K "only_of" "only_of" kY f fd)(nb:NB mg):aR P w K mg base bB 1 f fd ["text","letters"] gZ:=by
 have sc:=wL;walk_at "f"
 ·obtain⟨r,z,rfl,_⟩:=h;rfl
 ·obtain⟨r,z,rfl,hr',q⟩:=h
  refine⟨_,(ag (aJ (aP (Bb rfl) rfl nb.all EO (ac (c5 ["sign"] [1] rfl (bH.of (by kernel_rfl)) (by kernel_rfl) (Aa (al 0))
    (λ_ _ _ _=>(aA (i:=0) (by show(["sign","letters"]:List Str).Nodup;decide +kernel) rfl (Or.inl rfl))) (λ_ _ _ _=>cN) (λ_ _ _ _=>(xc yB (al 0) (al 1) (by with_unfolding_all rfl)))) ad)))),?_⟩
  walk_at "wp";refine Bo (x:=tx r) (λi acc σ H'=>H'=H/\acc=((r.take i).map (Fx z)).map V.bl/\i<=r.length/\∃x,σ=[x,some (.str z)]) ⟨rfl,rfl,J9 _,_,rfl⟩ ?_ ?_ ?_ ?_
  ·rintro i acc σ H' ⟨_,rfl,hi,_⟩
   rw[JM,JM,Kk];exact bh ⋯
  ·rintro i acc σ H' ⟨_,_,h,_⟩
   rw[GY];exact h
  ·rintro i c acc σ H' hc ⟨rfl,rfl,hi,y,rfl⟩
   have hc':=IE hc;have hi':=(JK.mp hc').1;walk_at "wp";refine⟨?_,hi'⟩;rw[List.take_add_one,hc'];simp
  ·rintro acc σ H' ⟨rfl,rfl,_⟩ l hl
   refine⟨_,aQ.of ae,?_⟩;rw[GY,Kj];have e:(r.map (Fx z)).all id=jp r z:=by unfold jp;rw[List.all_map];rfl
   rw[e];exact q _ (aj hl)
abbrev k8:Stmt:=gW 35
abbrev Eo:Str:="ABCDEFGHIJKLMNOPQRSTUVWXYZ"
def df(r:KI):Bool:=decide (1<=r.length)&&decide (r.length<=4)&&jp r Eo
inductive jC(vs:List V)(H:Hp)(Q:VK)(_E:XK):Prop
 |mk (r:KI) (_:vs=[.str (tx r)]) (_:r.length<=100000) (_:∀H',aD H H'->Q (.bl (df r)) H')
theorem vH:aB ["text"] ["text"] (ak k8):=by walk_at "c"
theorem vW{f:Addr}{fd:KO}{t1 t2:Tok}(F:dw K "is_name" "is_name" k8 f fd)(nb:NB mg)(yax:mg "LONGEST_NAME"=some (.int 4 t1))(yat:mg "CAPITALS"=some (.str "ABCDEFGHIJKLMNOPQRSTUVWXYZ" t2))(yae:dL P w K mg base bB 1 "only_of" ["text","letters"] gZ):aR P w K mg base bB 2 f fd ["text"] jC:=by
 have sc:=vH;walk_at "f"
 ·obtain⟨r,rfl,_⟩:=h;rfl
 ·obtain⟨r,rfl,hr',q⟩:=h
  refine⟨_,(ag (aJ (tU (uV (bx.m0 uQ) (bx.m0 uQ) am (aP bL rfl nb.len b_ (ac (al 0) ad)) (cY (v:=.int 4) rfl yax ⟨_,rfl⟩)) (wH (aE yae (hr.mono nofun) rfl aM (ac (al 0) (ac (cY (v:=.str "ABCDEFGHIJKLMNOPQRSTUVWXYZ") rfl yat ⟨_,rfl⟩) ad))))))),?_⟩;walk_at "wp";refine⟨by rw[aG];exact au ⋯,?_⟩;rw[aG];unfold df at q
  by_cases h1:1<=r.length
  ·rw[if_pos ⋯]
   by_cases h2:r.length<=4
   ·rw[if_pos ⋯]
    refine⟨r,_,rfl,hr',λH' sm=>?_⟩;have z:=q H' sm;rw[decide_eq_true h1,decide_eq_true h2]at z;exact z
   ·rw[if_neg ⋯]
    have z:=q H (λ_ _ e=>e);rw[decide_eq_true h1,decide_eq_false h2]at z;exact z
  ·rw[if_neg ⋯]
   have z:=q H (λ_ _ e=>e);rw[decide_eq_false h1]at z;exact z
abbrev fE:Stmt:=ib 36 0
inductive c_(K:W.Frag)(CF:Addr)(vs:List V)(H:Hp)(Q:VK)(E:XK):Prop
 |mk (a C dx l:Addr) (n:KI) (c:Int) (ps:aF) (_:vs=[.ref a,.str (tx n),.int c,.ref l]) (_:H a=some (.ins C dx [])) (_:iQ K C) (_:ax K C "name") (_:ax K C "cost") (_:ax K C "part_names") (_:H l=some (.lst (ar ps))) (_:ps.length<=1000) (_:(∀r∈n::ps,r.length<=100000)) (_:((∀r∈n::ps,df r=true)/\1<=c/\c<=9->∀H',aD H H'->Q .non (aC H' a (.ins C dx [("name",.str (tx n)),("cost",.int c),("part_names",.ref l)])))) (_:(¬ ((∀r∈n::ps,df r=true)/\1<=c/\c<=9)->∀H',aD H H'->E (.ref CF) none H'))
theorem qT:aB ["self","name","cost","part_names","text"] ["self","name","cost","part_names"] (ak fE):=by walk_at "c"
theorem rL{f zga:Addr}{fd:KO}(F:dw K "__init__" "Rule.__init__" fE f fd)(nb:NB mg)(zoa:mg "NoRule"=some (.ref zga))(zna:XR K zga)(yah:dL P w K mg base bB 2 "is_name" ["text"] jC):aR P w K mg base (dz P w) 3 f fd ["self","name","cost","part_names"] (c_ K zga):=by
 have sc:=qT;walk_at "x"
 ·obtain⟨a,C,dx,l,n,c,ps,rfl,_⟩:=h;rfl
 ·obtain⟨a,C,dx,l,n,c,ps,rfl,ha,cl,n1,n2,n3,hl,hpl,hrl,good,bad⟩:=h
  refine⟨_,(af (bj PassesOwn.leaving rfl (bD (az wm (bE (ac (al 1) ad)) (al 3))) (aA (i:=4) sc.nd rfl (Or.inl rfl))
   (ag (ce (lh (jr (aE (CX:=dz P w) yah.lift (hr.mono nofun) rfl bY (ac (al 4) ad)) λ_=>rfl))
   (ag (ge zna rfl rfl zoa (iM λ_ _ _ h=>h) (b5 ad)))
   bu)))
   (af (ce (PW.pt (xk (br (bx.m0 uk) (al 2) am (bO _)) (tM (br (bx.m0 wZ) (al 2) am (bO _)))))
   (ag (ge zna rfl rfl zoa (iM λ_ _ _ h=>h) (b5 ad)))
   bu)
   (af (cL (al 0) (al 1) rfl)
   (af (cL (al 0) (al 2) rfl)
   (ag (cL (al 0) (al 3) rfl)))))),?_⟩
  walk_at "wp";refine⟨au ⋯,λp hp=>?_⟩;have m1:aD H (aC H p (.lst [V.str (tx n)])):=aj hp;have e1:aC H p (.lst [V.str (tx n)]) p=some (.lst [V.str (tx n)]):=ae;generalize aC H p (.lst [V.str (tx n)])=H1 at m1 e1 ⊢;refine⟨_,e1,_,m1 _ _ hl,by rw[aq];exact au (by simp;omega),λp2 hp2=>?_⟩;have e12:[V.str (tx n)]++ar ps=ar (n::ps):=rfl;rw[e12];have m2:aD H1 (aC H1 p2 (.lst (ar (n::ps)))):=aj hp2;have e2:aC H1 p2 (.lst (ar (n::ps))) p2=some (.lst (ar (n::ps))):=ae;generalize aC H1 p2 (.lst (ar (n::ps)))=H2 at m2 e2 ⊢;generalize hqs:n::ps=qs at hrl good bad e2 ⊢;have m02:=m1.trans m2;refine⟨⟨_,aQ.of e2⟩,bZ (xs:=ar qs) (λi σ H'=>aD H2 H'/\(∀r∈qs.take i,df r=true)/\∃x,σ=[some (.ref a),some (.str (tx n)),some (.int c),some (.ref l),x]) ⟨λ_ _ e=>e,by simp,_,rfl⟩ (λi σ H' _ h=>aQ.of (h.1 _ _ e2)) ?_ ?_⟩
  ·rintro i v σ H' hv ⟨sm,hok,x,rfl⟩
   have hi:i<qs.length:=by have:=(JK.mp hv).1;rwa [aq]at this
   rw[cy hi]at hv;cases hv;walk_at "wp";refine⟨_,rfl,hrl _ (JT hi),λH3 sm3=>⟨_,rfl,?_⟩⟩
   by_cases hb:df qs[i]=true
   ·rw[if_neg (by rw[hb];decide)]
    refine⟨sm.trans sm3,λr hr=>?_⟩;rw[List.take_add_one,JJ hi]at hr;rcases JY.mp hr with h | h
    ·exact hok r h
    ·rw[show r=qs[i] by simpa using h];exact hb
   ·rw[if_pos (by simpa using hb)]
    exact⟨au ⋯,bad (λh=>hb (h.1 _ (JT hi))) _ ((m02.trans sm).trans sm3)⟩
  ·rintro σ H' ⟨sm,hok,x,rfl⟩
   rw[aq,Kj]at hok;have smH:=m02.trans sm;walk_at "wp"
   by_cases c1:c<1
   ·rw[if_pos c1]
    exact⟨au ⋯,bad (λh=>by omega) _ smH⟩
   ·rw[if_neg c1]
    by_cases c9:9<c
    ·rw[if_pos c9]
     exact⟨au ⋯,bad (λh=>by omega) _ smH⟩
    ·rw[if_neg c9]
     have g:=good ⟨hok,⋯,⋯⟩ H' smH;have l1:(cq "name" (V.str (tx n)) []).length<=1:=cX _ _ _;have l2:(cq "cost" (V.int c) (cq "name" (V.str (tx n)) [])).length<=2:=Kd (cX _ _ _) ⋯;have d1:¬ (("name":Str)="cost"):=by decide +kernel
     have d2:¬ (("name":Str)="part_names"):=by decide +kernel
     have d3:¬ (("cost":Str)="part_names"):=by decide +kernel
     have e:cq "part_names" (V.ref l) (cq "cost" (V.int c) (cq "name" (V.str (tx n)) []))=[(("name":Str),V.str (tx n)),(("cost":Str),V.int c),(("part_names":Str),V.ref l)]:=by
      simp only[cq,if_neg d1,if_neg d2,if_neg d3]
     refine⟨C,dx,[],smH _ _ ha,cl,n1,by simp,C,dx,_,ae,cl,n2,⋯,C,dx,_,ae,cl,n3,⋯,?_⟩;rw[j4,j4,e];exact g
def aN(a:Addr)(H H':Hp):Prop:=∀b o,b≠a->H b=some o->H' b=some o
theorem aN.of{a:Addr}{H H':Hp}(s:aD H H'):aN a H H':=λb o _ e=>s b o e
theorem aN.put{a:Addr}{H H':Hp}{o:HO}(s:aN a H H'):aN a H (aC H' a o):=λb u hb e=>by rw[ai hb];exact s b u hb e
theorem aN.then{a:Addr}{H H' H2:Hp}(s:aN a H H')(t:aD H' H2):aN a H H2:=λb u hb e=>t b u (s b u hb e)
theorem aN.trans{a:Addr}{H H' H2:Hp}(s:aN a H H')(t:aN a H' H2):aN a H H2:=λb u hb e=>t b u hb (s b u hb e)
abbrev EW:Str:="abcdefghijklmnopqrstuvwxyz"
def iz(r:KI):Bool:=decide (r.length=1)&&jp r EW
def fX(n:KI)(ps:aF)(c:Int):Prop:=(∀r∈n::ps,df r=true)/\1<=c/\c<=9
abbrev fG:Stmt:=ib 37 0
inductive gU(K:W.Frag)(CF:Addr)(vs:List V)(H:Hp)(Q:VK)(E:XK):Prop
 |mk (a C dx:Addr) (n sg:KI) (c:Int) (_:vs=[.ref a,.str (tx n),.int c,.str (tx sg)]) (_:H a=some (.ins C dx [])) (_:iQ K C) (_:(ax K C "name"/\ax K C "cost"/\ax K C "part_names"/\ax K C "sign")) (_:n.length<=100000) (_:sg.length<=100000) (_:(fX n [] c/\iz sg=true->∀(l:Addr) (H':Hp),aN a H H'->H l=none->H' l=some (.lst [])->H' a=some (.ins C dx [("name",.str (tx n)),("cost",.int c),("part_names",.ref l),("sign",.str (tx sg))])->Q .non H')) (_:(¬ (fX n [] c/\iz sg=true)->∀H',aN a H H'->E (.ref CF) none H'))
theorem qU:aB ["self","name","cost","sign"] ["self","name","cost","sign"] (ak fG):=by walk_at "c"
theorem tP{f zga:Addr}{fd:KO}{t3:Tok}(F:dw K "__init__" "CellRule.__init__" fG f fd)(nb:NB mg)(yaj:mg "SMALLS"=some (.str "abcdefghijklmnopqrstuvwxyz" t3))(zoa:mg "NoRule"=some (.ref zga))(zna:XR K zga)
  (yae:dL P w K mg base bB 1 "only_of" ["text","letters"] gZ) (zha:yz P w K mg base (dz P w) 3 "Rule" "__init__" ["self","name","cost","part_names"] (c_ K zga)):aR P w K mg base (dz P w) 4 f fd ["self","name","cost","sign"] (gU K zga):=by
 have sc:=qU;walk_at "x"
 ·obtain⟨a,C,dx,n,sg,c,rfl,_⟩:=h;rfl
 ·obtain⟨a,C,dx,n,sg,c,rfl,ha,cl,⟨n1,n2,n3,n4⟩,hn,hsg,good,bad⟩:=h
  refine⟨_,(af (bw (mX (E:=E) zha (hr.mono nofun) rfl (dN λ_ _ _ h=>h) (ac (al 0) (ac (al 1) (ac (al 2) (ac (bE ad) ad))))))
   (af (ce (PW.pt (xk (br Aw (aP bL rfl nb.len b_ (ac (al 3) ad)) am (bO _)) (tM (lh (jr (aE (CX:=dz P w) yae.lift (hr.mono nofun) rfl bY (ac (al 3) (ac (cY (v:=.str "abcdefghijklmnopqrstuvwxyz") rfl yaj ⟨_,rfl⟩) ad))) λ_=>rfl)))))
   (ag (ge zna rfl rfl zoa (iM λ_ _ _ h=>h) (b5 ad)))
   bu)
   (ag (cL (al 0) (al 3) rfl)))),?_⟩
  walk_at "wp";refine⟨J9 _,λl hl=>?_⟩;have m1:aD H (aC H l (.lst [])):=aj hl;have e1:aC H l (.lst []) l=some (.lst []):=ae;generalize aC H l (.lst [])=H1 at m1 e1 ⊢;have hla:l≠a:=λe=>by rw[e,ha]at hl;cases hl
  refine⟨a,C,dx,l,n,c,[],rfl,m1 _ _ ha,cl,n1,n2,n3,e1,by simp,λr hr=>by rw[show r=n by simpa using hr];exact hn,λok H2 sm2=>?_,λnok H2 sm2=>bad (λh=>nok h.1) _ (.of (m1.trans sm2))⟩;have sx:aN a H (aC H2 a (.ins C dx [("name",.str (tx n)),("cost",.int c),("part_names",.ref l)])):=(aN.of (m1.trans sm2)).put;have ea:aC H2 a (.ins C dx [("name",.str (tx n)),("cost",.int c),("part_names",.ref l)]) a=some (.ins C dx [("name",.str (tx n)),("cost",.int c),("part_names",.ref l)]):=ae;have el:aC H2 a (.ins C dx [("name",.str (tx n)),("cost",.int c),("part_names",.ref l)]) l=some (.lst []):=by rw[ai hla];exact sm2 _ _ e1
  generalize aC H2 a (.ins C dx [("name",.str (tx n)),("cost",.int c),("part_names",.ref l)])=H3 at sx ea el ⊢
  try dsimp only
  have sgl:iz sg=true->sg.length=1/\jp sg EW=true:=λh=>by
   unfold iz at h;rw[Bool.and_eq_true,decide_eq_true_eq]at h;exact h
  refine⟨by rw[aG];exact au ⋯,?_⟩;rw[aG]
  by_cases h1:(sg.length:Int)=1
  ·rw[if_neg (λh=>h h1)]
   refine⟨sg,_,rfl,hsg,λH4 sm4=>⟨_,rfl,?_⟩⟩
   by_cases hb:jp sg EW=true
   ·rw[if_neg (by rw[hb];decide)]
    have d1:¬ (("name":Str)="sign"):=by decide +kernel
    have d2:¬ (("cost":Str)="sign"):=by decide +kernel
    have d3:¬ (("part_names":Str)="sign"):=by decide +kernel
    have e:cq "sign" (V.str (tx sg)) [(("name":Str),V.str (tx n)),(("cost":Str),V.int c),(("part_names":Str),V.ref l)]=[(("name":Str),V.str (tx n)),(("cost":Str),V.int c),(("part_names":Str),V.ref l),(("sign":Str),V.str (tx sg))]:=by
     simp only[cq,if_neg d1,if_neg d2,if_neg d3]
    refine⟨C,dx,_,sm4 _ _ ea,cl,n4,by simp,?_⟩;rw[e];exact good ⟨ok,by unfold iz;rw[decide_eq_true ⋯,hb];rfl⟩ l _ (sx.then sm4).put hl (by rw[ai hla];exact sm4 _ _ el) ae
   ·rw[if_pos (by simpa using hb)]
    exact⟨au ⋯,bad (λh=>hb (sgl h.2).2) _ (sx.then sm4)⟩
  ·rw[if_pos h1]
   exact⟨au ⋯,bad (λh=>h1 (by have:=(sgl h.2).1;omega)) _ sx⟩
inductive cZ(K:W.Frag)(CF:Addr)(vs:List V)(H:Hp)(Q:VK)(E:XK):Prop
 |mk (a C dx:Addr) (n o1 o2:KI) (c:Int) (_:vs=[.ref a,.str (tx n),.int c,.str (tx o1),.str (tx o2)]) (_:H a=some (.ins C dx [])) (_:iQ K C) (_:(ax K C "name"/\ax K C "cost"/\ax K C "part_names"/\ax K C "one"/\ax K C "other")) (_:n.length<=100000) (_:o1.length<=100000) (_:o2.length<=100000) (_:(fX n [o1,o2] c->∀(l:Addr) (H':Hp),aN a H H'->H l=none->H' l=some (.lst (ar [o1,o2]))->H' a=some (.ins C dx [("name",.str (tx n)),("cost",.int c),("part_names",.ref l),("one",.str (tx o1)),("other",.str (tx o2))])->Q .non H')) (_:(¬ fX n [o1,o2] c->∀H',aN a H H'->E (.ref CF) none H'))
theorem ve{n o1 o2:KI}{c:Int}{l:Addr}:cq "other" (V.str (tx o2)) (cq "one" (V.str (tx o1)) [(("name":Str),V.str (tx n)),(("cost":Str),V.int c),(("part_names":Str),V.ref l)])=[(("name":Str),V.str (tx n)),(("cost":Str),V.int c),(("part_names":Str),V.ref l),(("one":Str),V.str (tx o1)),(("other":Str),V.str (tx o2))]:=by
 have d1:¬ (("name":Str)="one"):=by decide +kernel
 have d2:¬ (("cost":Str)="one"):=by decide +kernel
 have d3:¬ (("part_names":Str)="one"):=by decide +kernel
 have d4:¬ (("name":Str)="other"):=by decide +kernel
 have d5:¬ (("cost":Str)="other"):=by decide +kernel
 have d6:¬ (("part_names":Str)="other"):=by decide +kernel
 have d7:¬ (("one":Str)="other"):=by decide +kernel
 simp only[cq,if_neg d1,if_neg d2,if_neg d3,if_neg d4,if_neg d5,if_neg d6,if_neg d7]
abbrev dW:Stmt:=ib 38 0
theorem ow:aB ["self","name","cost","one","other"] ["self","name","cost","one","other"] (ak dW):=by walk_at "c"
theorem nG{f zga:Addr}{fd:KO}(F:dw K "__init__" "BesideRule.__init__" dW f fd)(nb:NB mg)
  (zha:yz P w K mg base (dz P w) 3 "Rule" "__init__" ["self","name","cost","part_names"] (c_ K zga)):aR P w K mg base (dz P w) 4 f fd ["self","name","cost","one","other"] (cZ K zga):=by
 have sc:=ow;walk_at "x"
 ·obtain⟨a,C,dx,n,o1,o2,c,rfl,_⟩:=h;rfl
 ·obtain⟨a,C,dx,n,o1,o2,c,rfl,ha,cl,⟨n1,n2,n3,n4,n5⟩,hn,ho1,ho2,good,bad⟩:=h
  refine⟨_,(af (bw (mX (E:=E) zha (hr.mono nofun) rfl (dN λ_ _ _ h=>h) (ac (al 0) (ac (al 1) (ac (al 2) (ac (bE (ac (al 3) (ac (al 4) ad))) ad))))))
   (af (cL (al 0) (al 3) rfl)
   (ag (cL (al 0) (al 4) rfl)))),?_⟩
  walk_at "wp";refine⟨au ⋯,λl hl=>?_⟩;have m1:aD H (aC H l (.lst [V.str (tx o1),V.str (tx o2)])):=aj hl;have e1:aC H l (.lst [V.str (tx o1),V.str (tx o2)]) l=some (.lst (ar [o1,o2])):=ae;generalize aC H l (.lst [V.str (tx o1),V.str (tx o2)])=H1 at m1 e1 ⊢;have hla:l≠a:=λe=>by rw[e,ha]at hl;cases hl
  refine⟨a,C,dx,l,n,c,[o1,o2],rfl,m1 _ _ ha,cl,n1,n2,n3,e1,by simp,λr hr=>?_,λok H2 sm2=>?_,λnok H2 sm2=>bad (λh=>nok h) _ (.of (m1.trans sm2))⟩
  ·have h3:r=n\/r=o1\/r=o2:=by simpa using hr
   rcases h3 with rfl | rfl | rfl
   ·exact hn
   ·exact ho1
   ·exact ho2
  ·have sx:aN a H (aC H2 a (.ins C dx [("name",.str (tx n)),("cost",.int c),("part_names",.ref l)])):=(aN.of (m1.trans sm2)).put
   have ea:aC H2 a (.ins C dx [("name",.str (tx n)),("cost",.int c),("part_names",.ref l)]) a=some (.ins C dx [("name",.str (tx n)),("cost",.int c),("part_names",.ref l)]):=ae;have el:aC H2 a (.ins C dx [("name",.str (tx n)),("cost",.int c),("part_names",.ref l)]) l=some (.lst (ar [o1,o2])):=by rw[ai hla];exact sm2 _ _ e1
   generalize aC H2 a (.ins C dx [("name",.str (tx n)),("cost",.int c),("part_names",.ref l)])=H3 at sx ea el ⊢
   try dsimp only
   refine⟨C,dx,_,ea,cl,n4,by simp,C,dx,_,ae,cl,n5,?_,?_⟩
   ·exact Kq (cX _ _ _) (by simp)
   ·rw[j4,ve]
    exact good ok l _ sx.put hl (by rw[ai hla];exact el) ae
abbrev eG:Stmt:=ib 39 0
theorem pG:aB ["self","name","cost","one","other"] ["self","name","cost","one","other"] (ak eG):=by walk_at "c"
theorem pq{f zga:Addr}{fd:KO}(F:dw K "__init__" "AboveRule.__init__" eG f fd)(nb:NB mg)
  (zha:yz P w K mg base (dz P w) 3 "Rule" "__init__" ["self","name","cost","part_names"] (c_ K zga)):aR P w K mg base (dz P w) 4 f fd ["self","name","cost","one","other"] (cZ K zga):=by
 have sc:=pG;walk_at "x"
 ·obtain⟨a,C,dx,n,o1,o2,c,rfl,_⟩:=h;rfl
 ·obtain⟨a,C,dx,n,o1,o2,c,rfl,ha,cl,⟨n1,n2,n3,n4,n5⟩,hn,ho1,ho2,good,bad⟩:=h
  refine⟨_,(af (bw (mX (E:=E) zha (hr.mono nofun) rfl (dN λ_ _ _ h=>h) (ac (al 0) (ac (al 1) (ac (al 2) (ac (bE (ac (al 3) (ac (al 4) ad))) ad))))))
   (af (cL (al 0) (al 3) rfl)
   (ag (cL (al 0) (al 4) rfl)))),?_⟩
  walk_at "wp";refine⟨au ⋯,λl hl=>?_⟩;have m1:aD H (aC H l (.lst [V.str (tx o1),V.str (tx o2)])):=aj hl;have e1:aC H l (.lst [V.str (tx o1),V.str (tx o2)]) l=some (.lst (ar [o1,o2])):=ae;generalize aC H l (.lst [V.str (tx o1),V.str (tx o2)])=H1 at m1 e1 ⊢;have hla:l≠a:=λe=>by rw[e,ha]at hl;cases hl
  refine⟨a,C,dx,l,n,c,[o1,o2],rfl,m1 _ _ ha,cl,n1,n2,n3,e1,by simp,λr hr=>?_,λok H2 sm2=>?_,λnok H2 sm2=>bad (λh=>nok h) _ (.of (m1.trans sm2))⟩
  ·have h3:r=n\/r=o1\/r=o2:=by simpa using hr
   rcases h3 with rfl | rfl | rfl
   ·exact hn
   ·exact ho1
   ·exact ho2
  ·have sx:aN a H (aC H2 a (.ins C dx [("name",.str (tx n)),("cost",.int c),("part_names",.ref l)])):=(aN.of (m1.trans sm2)).put
   have ea:aC H2 a (.ins C dx [("name",.str (tx n)),("cost",.int c),("part_names",.ref l)]) a=some (.ins C dx [("name",.str (tx n)),("cost",.int c),("part_names",.ref l)]):=ae;have el:aC H2 a (.ins C dx [("name",.str (tx n)),("cost",.int c),("part_names",.ref l)]) l=some (.lst (ar [o1,o2])):=by rw[ai hla];exact sm2 _ _ e1
   generalize aC H2 a (.ins C dx [("name",.str (tx n)),("cost",.int c),("part_names",.ref l)])=H3 at sx ea el ⊢
   try dsimp only
   refine⟨C,dx,_,ea,cl,n4,by simp,C,dx,_,ae,cl,n5,?_,?_⟩
   ·exact Kq (cX _ _ _) (by simp)
   ·rw[j4,ve]
    exact good ok l _ sx.put hl (by rw[ai hla];exact el) ae
inductive gR(K:W.Frag)(CF:Addr)(vs:List V)(H:Hp)(Q:VK)(E:XK):Prop
 |mk (a C dx:Addr) (n o1:KI) (c t:Int) (_:vs=[.ref a,.str (tx n),.int c,.str (tx o1),.int t]) (_:H a=some (.ins C dx [])) (_:iQ K C) (_:(ax K C "name"/\ax K C "cost"/\ax K C "part_names"/\ax K C "part"/\ax K C "turning")) (_:n.length<=100000) (_:o1.length<=100000) (_:(fX n [o1] c/\0<=t/\t<=7->∀(l:Addr) (H':Hp),aN a H H'->H l=none->H' l=some (.lst (ar [o1]))->H' a=some (.ins C dx [("name",.str (tx n)),("cost",.int c),("part_names",.ref l),("part",.str (tx o1)),("turning",.int t)])->Q .non H')) (_:(¬ (fX n [o1] c/\0<=t/\t<=7)->∀H',aN a H H'->E (.ref CF) none H'))
theorem BU{n o1:KI}{c t:Int}{l:Addr}:cq "turning" (V.int t) (cq "part" (V.str (tx o1)) [(("name":Str),V.str (tx n)),(("cost":Str),V.int c),(("part_names":Str),V.ref l)])=[(("name":Str),V.str (tx n)),(("cost":Str),V.int c),(("part_names":Str),V.ref l),(("part":Str),V.str (tx o1)),(("turning":Str),V.int t)]:=by
 have d1:¬ (("name":Str)="part"):=by decide +kernel
 have d2:¬ (("cost":Str)="part"):=by decide +kernel
 have d3:¬ (("part_names":Str)="part"):=by decide +kernel
 have d4:¬ (("name":Str)="turning"):=by decide +kernel
 have d5:¬ (("cost":Str)="turning"):=by decide +kernel
 have d6:¬ (("part_names":Str)="turning"):=by decide +kernel
 have d7:¬ (("part":Str)="turning"):=by decide +kernel
 simp only[cq,if_neg d1,if_neg d2,if_neg d3,if_neg d4,if_neg d5,if_neg d6,if_neg d7]
abbrev fC:Stmt:=ib 40 0
theorem sO:aB ["self","name","cost","part","turning"] ["self","name","cost","part","turning"] (ak fC):=by walk_at "c"
theorem tQ{f zga:Addr}{fd:KO}(F:dw K "__init__" "TurnRule.__init__" fC f fd)(nb:NB mg)(zoa:mg "NoRule"=some (.ref zga))(zna:XR K zga)
  (zha:yz P w K mg base (dz P w) 3 "Rule" "__init__" ["self","name","cost","part_names"] (c_ K zga)):aR P w K mg base (dz P w) 4 f fd ["self","name","cost","part","turning"] (gR K zga):=by
 have sc:=sO;walk_at "x"
 ·obtain⟨a,C,dx,n,o1,c,t,rfl,_⟩:=h;rfl
 ·obtain⟨a,C,dx,n,o1,c,t,rfl,ha,cl,⟨n1,n2,n3,n4,n5⟩,hn,ho1,good,bad⟩:=h
  refine⟨_,(af (bw (mX (E:=E) zha (hr.mono nofun) rfl (dN λ_ _ _ h=>h) (ac (al 0) (ac (al 1) (ac (al 2) (ac (bE (ac (al 3) ad)) ad))))))
   (af (ce (PW.pt (xk (br (bx.m0 uk) (al 4) am (bO _)) (tM (br (bx.m0 wZ) (al 4) am (bO _)))))
   (ag (ge zna rfl rfl zoa (iM λ_ _ _ h=>h) (b5 ad)))
   bu)
   (af (cL (al 0) (al 3) rfl)
   (ag (cL (al 0) (al 4) rfl))))),?_⟩
  walk_at "wp";refine⟨au ⋯,λl hl=>?_⟩;have m1:aD H (aC H l (.lst [V.str (tx o1)])):=aj hl;have e1:aC H l (.lst [V.str (tx o1)]) l=some (.lst (ar [o1])):=ae;generalize aC H l (.lst [V.str (tx o1)])=H1 at m1 e1 ⊢;have hla:l≠a:=λe=>by rw[e,ha]at hl;cases hl
  refine⟨a,C,dx,l,n,c,[o1],rfl,m1 _ _ ha,cl,n1,n2,n3,e1,by simp,λr hr=>?_,λok H2 sm2=>?_,λnok H2 sm2=>bad (λh=>nok h.1) _ (.of (m1.trans sm2))⟩
  ·have h3:r=n\/r=o1:=by simpa using hr
   rcases h3 with rfl | rfl
   ·exact hn
   ·exact ho1
  ·have sx:aN a H (aC H2 a (.ins C dx [("name",.str (tx n)),("cost",.int c),("part_names",.ref l)])):=(aN.of (m1.trans sm2)).put
   have ea:aC H2 a (.ins C dx [("name",.str (tx n)),("cost",.int c),("part_names",.ref l)]) a=some (.ins C dx [("name",.str (tx n)),("cost",.int c),("part_names",.ref l)]):=ae;have el:aC H2 a (.ins C dx [("name",.str (tx n)),("cost",.int c),("part_names",.ref l)]) l=some (.lst (ar [o1])):=by rw[ai hla];exact sm2 _ _ e1
   generalize aC H2 a (.ins C dx [("name",.str (tx n)),("cost",.int c),("part_names",.ref l)])=H3 at sx ea el ⊢
   try dsimp only
   by_cases t0:t<0
   ·rw[if_pos t0]
    exact⟨au ⋯,bad (λh=>by omega) _ sx⟩
   ·rw[if_neg t0]
    by_cases t7:7<t
    ·rw[if_pos t7]
     exact⟨au ⋯,bad (λh=>by omega) _ sx⟩
    ·rw[if_neg t7]
     refine⟨C,dx,_,ea,cl,n4,by simp,C,dx,_,ae,cl,n5,?_,?_⟩
     ·exact Kq (cX _ _ _) (by simp)
     ·rw[j4,BU]
      exact good ⟨ok,⋯,⋯⟩ l _ sx.put hl (by rw[ai hla];exact el) ae
abbrev eR:Stmt:=ib 36 1
inductive cr(K:W.Frag)(vs:List V)(H:Hp)(Q:VK)(_E:XK):Prop
 |mk (a C dx l:Addr) (fs:List (Str×V)) (ps:aF) (_:vs=[.ref a]) (_:H a=some (.ins C dx fs)) (_:iQ K C) (_:ax K C "part_names") (_:fs.lookup ("part_names":Str)=some (V.ref l)) (_:H l=some (.lst (ar ps))) (_:gu H ps Q)
theorem pd:aB ["self"] ["self"] (ak eR):=by walk_at "c"
theorem dS{f:Addr}{fd:KO}(F:dw K "parts" "Rule.parts" eR f fd)(nb:NB mg):aR P w K mg base bB 1 f fd ["self"] (cr K):=by
 have sc:=pd;walk_at "f"
 ·obtain⟨a,C,dx,l,fs,ps,rfl,_⟩:=h;rfl
 ·obtain⟨a,C,dx,l,fs,ps,rfl,ha,cl,n1,lk,hl,q⟩:=h
  refine⟨_,(ag (aJ (c8 cg rfl nb.list eV (ac (bK (al 0) rfl) ad)))),?_⟩;walk_at "wp";refine⟨C,dx,fs,ha,cl,n1,V.ref l,lk,l,rfl,_,.inl (aQ.of hl),λl' hl'=>q l' _ hl' ae (aj hl')⟩
abbrev FH(n:KI)(c:Int)(l:Addr)(sg:KI):List (Str×V):=[("name",.str (tx n)),("cost",.int c),("part_names",.ref l),("sign",.str (tx sg))]
abbrev D1(n:KI)(c:Int)(l:Addr)(o1 o2:KI):List (Str×V):=[("name",.str (tx n)),("cost",.int c),("part_names",.ref l),("one",.str (tx o1)),("other",.str (tx o2))]
abbrev DM(n:KI)(c:Int)(l:Addr)(o1:KI)(t:Int):List (Str×V):=[("name",.str (tx n)),("cost",.int c),("part_names",.ref l),("part",.str (tx o1)),("turning",.int t)]
theorem i_{r:KI}(h:df r=true):1<=r.length/\r.length<=4:=by
 unfold df at h;rw[Bool.and_eq_true,Bool.and_eq_true,decide_eq_true_eq,decide_eq_true_eq]at h;exact h.1
theorem x_{r:KI}(h:iz r=true):r.length=1:=by
 unfold iz at h;rw[Bool.and_eq_true,decide_eq_true_eq]at h;exact h.1
theorem aw{a b:TS}{D:il}{σ:St}{H:Hp}(h:∀N:St->Hp->Prop,(∀σ2 H2,b D σ2 H2->N σ2 H2)->a {D with nx:=N} σ H):yL a b D σ H:=h (b D) λ_ _ z=>z
abbrev lg:Stmt:=gW 60
inductive nI(vs:List V)(H:Hp)(Q:VK)(_E:XK):Prop
 |mk (i:Int) (_:vs=[.int i]) (_:Q (.bl true) H)
theorem vT:aB ["_law_x"] ["_law_x"] (ak lg):=by walk_at "c"
theorem wc{f:Addr}{fd:KO}(F:dw K "_law_whole" "_law_whole" lg f fd)(nb:NB mg):aR P w K mg base bB 1 f fd ["_law_x"] nI:=by
 have sc:=vT;walk_at "f"
 ·obtain⟨i,rfl,_⟩:=h;rfl
 ·obtain⟨i,rfl,q⟩:=h
  refine⟨_,(ag (aJ (tU (aP dq rfl nb.isinstance dj (ac (al 0) (ac (xG (v:=.ty "int") rfl nb.int Ec rfl) ad))) (wH (E_ (aP dq rfl nb.isinstance dj (ac (al 0) (ac (xG (v:=.ty "bool") rfl nb.bool Di rfl) ad)))))))),?_⟩;walk_at "wp";refine⟨_,i'.int i,_,B8 K _,?_⟩;walk_at "wp";refine⟨_,i'.int i,_,r8 K,?_⟩;exact q
structure RV where
 n:List Nat
 c:Int
 o1:List Nat
 o2:List Nat
 sg:List Nat
 t:Int
abbrev Yaa:=List (Nat×RV)
structure RC where
 rr:Addr
 cc:Addr
 cb:Addr
 ca:Addr
 ct:Addr
def RC.at(R:RC)(k:Nat):Addr:=match k with | 0=>R.cc | 1=>R.cb | 2=>R.ca | _=>R.ct
def rR(k:Nat)(l:Addr)(v:RV):List (Str×V):=match k with | 0=>FH v.n v.c l v.sg | 1=>D1 v.n v.c l v.o1 v.o2 | 2=>D1 v.n v.c l v.o1 v.o2 | _=>DM v.n v.c l v.o1 v.t
def bR(k:Nat)(v:RV):aF:=match k with | 0=>[] | 1=>[v.o1,v.o2] | 2=>[v.o1,v.o2] | _=>[v.o1]
def HM(k:Nat)(v:RV):Prop:=match k with | 0=>fX v.n [] v.c/\iz v.sg=true | 1=>fX v.n [v.o1,v.o2] v.c | 2=>fX v.n [v.o1,v.o2] v.c | _=>fX v.n [v.o1] v.c/\0<=v.t/\v.t<=7
structure RV.small(v:RV):Prop where
 n:v.n.length<=1000
 o1:v.o1.length<=1000
 o2:v.o2.length<=1000
 sg:v.sg.length<=1000
structure RV.good(v:RV):Prop where
 n:df v.n=true
 c1:1<=v.c
 c9:v.c<=9
 o1:df v.o1=true
 o2:df v.o2=true
 sg:iz v.sg=true
 t0:0<=v.t
 t7:v.t<=7
theorem RV.good.small{v:RV}(g:v.good):v.small:=⟨by have:=i_ g.n;omega,by have:=i_ g.o1;omega,by have:=i_ g.o2;omega,by have:=x_ g.sg;omega⟩
theorem RV.good.ok{v:RV}(g:v.good):∀k,HM k v
 |0=>⟨⟨λr hr=>by rw[show r=v.n by simpa using hr];exact g.n,g.c1,g.c9⟩,g.sg⟩
 |1=>⟨λr hr=>by rcases(show r=v.n\/r=v.o1\/r=v.o2 by simpa using hr) with rfl | rfl | rfl<;>first | exact g.n | exact g.o1 | exact g.o2,g.c1,g.c9⟩
 |2=>⟨λr hr=>by rcases(show r=v.n\/r=v.o1\/r=v.o2 by simpa using hr) with rfl | rfl | rfl<;>first | exact g.n | exact g.o1 | exact g.o2,g.c1,g.c9⟩
 |_+3=>⟨⟨λr hr=>by rcases(show r=v.n\/r=v.o1 by simpa using hr) with rfl | rfl<;>first | exact g.n | exact g.o1,g.c1,g.c9⟩,g.t0,g.t7⟩
def fT(R:RC)(H:Hp)(k:Nat)(a:Addr)(v:RV):Prop:=∃dx l,H a=some (.ins (R.at k) dx (rR k l v))/\H l=some (.lst (ar (bR k v)))
theorem fT.up{R:RC}{H H':Hp}{k:Nat}{a:Addr}{v:RV}(r:fT R H k a v)(s:aD H H'):fT R H' k a v:=by
 obtain⟨dx,l,h1,h2⟩:=r;exact⟨dx,l,s _ _ h1,s _ _ h2⟩
structure lB(K:W.Frag)(R:RC):Prop where
 i0:jc K R.cc
 i1:jc K R.cb
 i2:jc K R.ca
 i3:jc K R.ct
 a0:ax K R.cc "name"/\ax K R.cc "cost"/\ax K R.cc "part_names"/\ax K R.cc "sign"
 a1:ax K R.cb "name"/\ax K R.cb "cost"/\ax K R.cb "part_names"/\ax K R.cb "one"/\ax K R.cb "other"
 a2:ax K R.ca "name"/\ax K R.ca "cost"/\ax K R.ca "part_names"/\ax K R.ca "one"/\ax K R.ca "other"
 a3:ax K R.ct "name"/\ax K R.ct "cost"/\ax K R.ct "part_names"/\ax K R.ct "part"/\ax K R.ct "turning"
 r0:W.kitOne K (.ref R.cc) (.ref R.rr)=some true
 r1:W.kitOne K (.ref R.cb) (.ref R.rr)=some true
 r2:W.kitOne K (.ref R.ca) (.ref R.rr)=some true
 r3:W.kitOne K (.ref R.ct) (.ref R.rr)=some true
 s0:W.kitOne K (.ref R.cc) (.ref R.cc)=some true
 s1:W.kitOne K (.ref R.cb) (.ref R.cb)=some true
 s2:W.kitOne K (.ref R.ca) (.ref R.ca)=some true
 s3:W.kitOne K (.ref R.ct) (.ref R.ct)=some true
theorem lB.icls{R:RC}(rk:lB K R):∀k,jc K (R.at k)
 |0=>rk.i0
 |1=>rk.i1
 |2=>rk.i2
 |_+3=>rk.i3
theorem lB.name{R:RC}(rk:lB K R):∀k,ax K (R.at k) "name"/\ax K (R.at k) "cost"/\ax K (R.at k) "part_names"
 |0=>⟨rk.a0.1,rk.a0.2.1,rk.a0.2.2.1⟩
 |1=>⟨rk.a1.1,rk.a1.2.1,rk.a1.2.2.1⟩
 |2=>⟨rk.a2.1,rk.a2.2.1,rk.a2.2.2.1⟩
 |_+3=>⟨rk.a3.1,rk.a3.2.1,rk.a3.2.2.1⟩
theorem iU(l:Addr)(v:RV):∀k,(rR k l v).lookup ("name":Str)=some (V.str (tx v.n))/\(rR k l v).lookup ("cost":Str)=some (V.int v.c)/\(rR k l v).lookup ("part_names":Str)=some (V.ref l)/\(rR k l v).lookup ("parts":Str)=none/\(rR k l v).lookup ("told":Str)=none
 |0=>⟨rfl,rfl,rfl,rfl,rfl⟩
 |1=>⟨rfl,rfl,rfl,rfl,rfl⟩
 |2=>⟨rfl,rfl,rfl,rfl,rfl⟩
 |_+3=>⟨rfl,rfl,rfl,rfl,rfl⟩
theorem i4{H1 H2:Hp}{x dx:Addr}{o o':HO}(hx:H1 x=none)(hd:H1 dx=none)(s:aN x (aC (aC H1 dx o) x o') H2):aD H1 H2:=
 λb u e=>s b u (av e hx) (by rw[ai (av e hx),ai (av e hd)];exact e)
theorem DL{CX:ir}{k:Nat}{m:Str}{C0 C1 C2 C3:Addr}{s0 s1 s2 s3:Sp}(h0:∃ps,ig P w K mg base CX k C0 m ps s0)(h1:∃ps,ig P w K mg base CX k C1 m ps s1)(h2:∃ps,ig P w K mg base CX k C2 m ps s2)(h3:∃ps,ig P w K mg base CX k C3 m ps s3) :
  v6 P w K mg base CX k m [(C0,s0),(C1,s1),(C2,s2),(C3,s3)]:=⟨λo ho=>by
 simp only[J0,List.not_mem_nil,or_false]at ho;rcases ho with rfl | rfl | rfl | rfl
 ·exact h0
 ·exact h1
 ·exact h2
 ·exact h3⟩
def nj(K:W.Frag)(R:RC):List (Addr×Sp):=[(R.cc,cr K),(R.cb,cr K),(R.ca,cr K),(R.ct,cr K)]
theorem yn{R:RC}{H:Hp}{k a}{v:RV}{Q:VK}{E:XK}(rk:lB K R)(r:fT R H k a v)(q:gu H (bR k v) Q) :
  ∃o∈nj K R,∃dx fs,H a=some (.ins o.1 dx fs)/\fs.lookup ("parts":Str)=none/\o.2 [.ref a] H Q E:=by
 obtain⟨dx,l,h1,h2⟩:=r;have key:cr K [.ref a] H Q E:=⟨a,R.at k,dx,l,_,_,rfl,h1,(rk.icls k).cl,(rk.name k).2.2,(iU l v k).2.2.1,h2,q⟩;have mem:(R.at k,cr K)∈nj K R:=by
  unfold nj
  match k with
  |0=>simp[RC.at]
  |1=>simp[RC.at]
  |2=>simp[RC.at]
  |_+3=>simp[RC.at]
 exact⟨_,mem,dx,_,h1,(iU l v k).2.2.2.1,key⟩
abbrev iK:Stmt:=gW 47
abbrev uv:Str:="abcdefghijklmnopqrstuvwxyz"
def jL(r:KI):Bool:=decide (1<=r.length)&&decide (r.length<=4)&&jp r uv&&decide ((met (c7 (tx r))).length=r.length)
inductive j0(vs:List V)(H:Hp)(Q:VK)(_E:XK):Prop
 |mk (r:KI) (_:vs=[.str (tx r)]) (_:r.length<=1000) (_:∀H',aD H H'->Q (.bl (jL r)) H')
theorem sJ:aB ["text"] ["text"] (ak iK):=by walk_at "c"
theorem tV{f:Addr}{fd:KO}{t1 t2:Tok}(F:dw K "are_signs" "are_signs" iK f fd)(nb:NB mg)(yaI:mg "MOST_SIGNS"=some (.int 4 t1))(yaj:mg "SMALLS"=some (.str "abcdefghijklmnopqrstuvwxyz" t2))(yae:dL P w K mg base bB 1 "only_of" ["text","letters"] gZ):aR P w K mg base bB 2 f fd ["text"] j0:=by
 have sc:=sJ;walk_at "f"
 ·obtain⟨r,rfl,_⟩:=h;rfl
 ·obtain⟨r,rfl,hr',q⟩:=h
  refine⟨_,(ag (aJ (tU (uV (bx.m0 uQ) (bx.m0 uQ) am (aP bL rfl nb.len b_ (ac (al 0) ad)) (cY (v:=.int 4) rfl yaI ⟨_,rfl⟩)) (tU (aE yae (hr.mono nofun) rfl aM (ac (al 0) (ac (cY (v:=.str "abcdefghijklmnopqrstuvwxyz") rfl yaj ⟨_,rfl⟩) ad))) (wH (xc jZ (yr rfl (al 0) rfl nb.len rfl nb.set) (aP bL rfl nb.len b_ (ac (al 0) ad)) (bO _))))))),?_⟩;walk_at "wp";refine⟨by rw[aG];exact au ⋯,?_⟩;rw[aG];unfold jL at q
  by_cases h1:1<=r.length
  ·rw[if_pos ⋯]
   by_cases h2:r.length<=4
   ·rw[if_pos ⋯]
    refine⟨r,_,rfl,⋯,λH' sm=>⟨_,rfl,?_⟩⟩;have z:=q H' sm;rw[decide_eq_true h1,decide_eq_true h2]at z;cases ho:jp r uv with
    |false=>
     rw[ho]at z;rw[if_neg (by simp)];exact z
    |true=>
     rw[ho]at z;rw[if_pos rfl];refine⟨by rw[GY];unfold scanBound;omega,by exact au ⋯,?_⟩;have e:decide (((met (c7 (tx r))).length:Int)=(r.length:Int))=decide ((met (c7 (tx r))).length=r.length):=by
      apply decide_eq_decide.mpr
      constructor<;>intro h<;>omega
     rw[e];exact z
   ·rw[if_neg ⋯]
    have z:=q H (λ_ _ e=>e);rw[decide_eq_true h1,decide_eq_false h2]at z;exact z
  ·rw[if_neg ⋯]
   have z:=q H (λ_ _ e=>e);rw[decide_eq_false h1]at z;exact z
def Fl(y:Str×List Int):List V:=.str y.1::y.2.map V.int
theorem BH{α:Type}{l:List α}{i:Nat}{x:α}(h:l[i]?=some x):l.drop i=x::l.drop (i+1):=by
 obtain⟨hi,e⟩:=JK.mp h;rw[List.drop_eq_getElem_cons hi,e]
def wf(C:Addr)(H:Hp)(y:Str×List Int)(E:XK):Prop:=∀(t d:Addr) (H':Hp),aD H H'->H' t=some (.tup (Fl y))->H' d=some (.xd [("why",.ref t)])->E (.ref C) (some d) H'
theorem wf.made{C:Addr}{H H':Hp}{y:Str×List Int}{E:XK}(b:wf C H y E)(sm:aD H H'){p d:Addr}(hp:H' p=none)(hd:aC H' p (.tup (Fl y)) d=none):E (.ref C) (some d) (aC (aC H' p (.tup (Fl y))) d (.xd [("why",.ref p)])):=by
 have hdp:p≠d:=λx=>by rw[<- x,ae]at hd;cases hd
 exact b p d _ ((sm.trans (aj hp)).trans (aj hd)) (by rw[ai hdp,ae]) ae
structure Ao(K:W.Frag)(R:RC):Prop where
 kit:∀i j,i<4->j<4->W.kitOne K (.ref (R.at i)) (.ref (R.at j))=some (decide (i=j))
abbrev iY:Stmt:=ib 5 0
theorem z_:aB ["self","why"] ["self","why"] (ak iY):=by walk_at "c"
theorem zY{f C:Addr}{fd:KO}(F:dw K "__init__" "NoGrammar.__init__" iY f fd)(xs:W.XSt K C "why"):aR P w K mg base bB 1 f fd ["self","why"] (mK C "why"):=by
 have sc:=z_;walk_at "f"
 ·obtain⟨a,v,rfl,_⟩:=h;rfl
 ·obtain⟨a,v,rfl,ha,q⟩:=h
  refine⟨_,(ag (Dy (pv 0) (pv 1) rfl)),?_⟩;walk_at "wp";exact⟨C,ha,xs,λd hd=>q d hd⟩
abbrev Gp(z x:Str):Bool:=!(Builtin.Str.occurrences z x 0 z.length 1).isEmpty
def fO(sg:Str):Yaa->Nat->Option Nat
 | [],_=>none
 |r::rs,j=>if r.1=0/\Gp sg (tx r.2.sg)=false then some j else fO sg rs (j+1)
def gL(sg st:KI)(rs:Yaa):Option (Str×List Int):=
 if jL sg=false then some ("signs",[]) else if df st=false then some ("start",[]) else if 24<rs.length then some ("rules",[(rs.length:Int)]) else
  match fO (tx sg) rs 0 with
  |some k=>some ("sign",[(k:Int)])
  |none=>none
abbrev d0:Stmt:=gW 46
def bg(R:RC)(H:Hp)(as:KM)(rs:Yaa):Prop:=as.length=rs.length/\∀(i:Nat) a r,as[i]?=some a->rs[i]?=some r->fT R H r.1 a r.2
theorem bg.up{R:RC}{H H':Hp}{as:KM}{rs:Yaa}(h:bg R H as rs)(s:aD H H'):bg R H' as rs:=⟨h.1,λi a r e1 e2=>(h.2 i a r e1 e2).up s⟩
inductive gs(R:RC)(C:Addr)(vs:List V)(H:Hp)(Q:VK)(E:XK):Prop
 |mk (sg st:KI) (a:Addr) (as:KM) (rs:Yaa) (_:vs=[.str (tx sg),.str (tx st),.ref a]) (_:sg.length<=1000) (_:st.length<=1000) (_:H a=some (.lst (as.map V.ref))) (_:bg R H as rs) (_:(∀r∈rs,r.1<4)) (_:rs.length<=100) (_:(gL sg st rs=none->∀H',aD H H'->Q .non H')) (_:∀y,gL sg st rs=some y->wf C H y E)
theorem kU:aB ["signs","start","rules","k","rule"] ["signs","start","rules"] (ak d0):=by walk_at "c"
theorem kX{R:RC}{f zca:Addr}{fd:KO}{t1:Tok}(F:dw K "check_made_of" "check_made_of" d0 f fd)(nb:NB mg)(rk:lB K R)(rk4:Ao K R)(yaY:mg "MOST_RULES"=some (.int 24 t1))(zZa:mg "CellRule"=some (.ref R.cc))
  (zla:mg "NoGrammar"=some (.ref zca)) (zja:XI P w K mg base 1 zca "why") (yaD:dL P w K mg base bB 2 "are_signs" ["text"] j0) (yah:dL P w K mg base bB 2 "is_name" ["text"] jC):aR P w K mg base (dz P w) 3 f fd ["signs","start","rules"] (gs R zca):=by
 have sc:=kU;walk_at "x"
 ·obtain⟨sg,st,a,as,rs,rfl,_⟩:=h;rfl
 ·obtain⟨sg,st,a,as,rs,rfl,hsg,hst,ha,hrs,hk4,hn,good,bad⟩:=h
  refine⟨_,(af (ce (lh (jr (aE (CX:=dz P w) yaD.lift (hr.mono nofun) rfl bY (ac (al 0) ad)) λ_=>rfl))
   (ag (gc zja (hr.mono nofun) rfl rfl zla (gl λ_ _ _ h=>h) (ac (bJ (b5 ad)) ad)))
   bu)
   (af (ce (lh (jr (aE (CX:=dz P w) yah.lift (hr.mono nofun) rfl bY (ac (al 1) ad)) λ_=>rfl))
   (ag (gc zja (hr.mono nofun) rfl rfl zla (gl λ_ _ _ h=>h) (ac (bJ (b5 ad)) ad)))
   bu)
   (af (ce (br (bx.m0 wZ) (aP cI rfl nb.len b_ (ac (al 2) ad)) (cY (v:=.int 24) rfl yaY ⟨_,rfl⟩) (bO _))
   (ag (gc zja (hr.mono nofun) rfl rfl zla (gl λ_ _ _ h=>h) (ac (bJ (b5 (ac (aP cI rfl nb.len b_ (ac (al 2) ad)) ad))) ad)))
   bu)
   (ag (bj PassesOwn.leaving rfl (mU rfl nb.enumerate (ac (al 2) ad)) (jE (n:=2) rfl (aS (aA (i:=3) sc.nd rfl (Or.inl rfl)) (aS (aA (i:=4) sc.nd rfl (Or.inl rfl)) dU)))
   (ag (ce (PW.pt (wQ (jr (aP dq rfl nb.isinstance dj (ac (al 4) (ac (cY (v:=.ref _) rfl zZa rfl) ad))) λ_=>rfl) (qR (br r9 (bK (al 4) rfl) (al 0) (by with_unfolding_all rfl)))))
   (ag (gc zja (hr.mono nofun) rfl rfl zla (gl λ_ _ _ h=>h) (ac (bJ (b5 (ac (al 3) ad))) ad)))
   bu))))))),?_⟩
  have tupw:∀(H':Hp) (y:Str×List Int),aD H H'->gL sg st rs=some y->∀p,H' p=none->1<=sizeLine/\∀d,aC H' p (.tup (Fl y)) d=none->E (.ref zca) (some d) (aC (aC H' p (.tup (Fl y))) d (.xd [("why",.ref p)])):=
   λH' y sm hy p hp=>⟨au ⋯,λd hd=>(bad y hy).made sm hp hd⟩
  walk_at "n";refine⟨sg,rfl,hsg,λH1 sm1=>⟨_,rfl,?_⟩⟩;unfold gL at good tupw;cases e1:jL sg with
  |false=>
   rw[if_pos rfl];rw[if_pos e1]at tupw;exact⟨au ⋯,tupw H1 _ sm1 rfl⟩
  |true=>
  rw[if_neg nofun];rw[if_neg (by rw[e1];decide)]at good tupw;refine h1 _ _ ?_;clear h1;walk_at "o";refine⟨st,rfl,⋯,λH2 sm2=>⟨_,rfl,?_⟩⟩;have sm12:=sm1.trans sm2;cases e2:df st with
  |false=>
   rw[if_pos rfl];rw[if_pos e2]at tupw;exact⟨au ⋯,tupw H2 _ sm12 rfl⟩
  |true=>
  rw[if_neg nofun];rw[if_neg (by rw[e2];decide)]at good tupw;refine h2 _ _ ?_;clear h2;have ha2:=sm12 _ _ ha;have hal:(as.map V.ref).length=rs.length:=by rw[JM];exact hrs.1
  refine aw λN3 h3=>?_;walk_at "wp";refine⟨_,aQ.of ha2,?_⟩;rw[hal]
  by_cases h24:24<rs.length
  ·rw[if_pos ⋯]
   rw[if_pos h24]at tupw;refine⟨_,aQ.of ha2,au ⋯,?_⟩;rw[hal];exact tupw H2 _ sm12 rfl
  rw[if_neg ⋯];rw[if_neg h24]at good tupw;refine h3 _ _ ?_;clear h3;walk_at "wp";refine⟨_,aQ.of ha2,?_⟩;refine kM (xs:=as.map V.ref) (λi σ H'=>aD H H'/\fO (tx sg) (rs.drop i) i=fO (tx sg) rs 0/\∃x y,σ=[some (.str (tx sg)),some (.str (tx st)),some (.ref a),x,y]) ⟨sm12,rfl,_,_,rfl⟩ ?_ ?_ ?_
  ·rintro i σ H' _ ⟨sm,_⟩
   exact aQ.of (sm _ _ ha)
  ·rintro i x σ H3 T hx ⟨sm,hb,x1,y1,rfl⟩ hT
   have hlt:i<rs.length:=by have:=(JK.mp hx).1;rw[hal]at this;exact this
   obtain⟨ra,hra,rfl⟩:∃ra,as[i]?=some ra/\V.ref ra=x:=by
    rw[JO]at hx;cases e:as[i]? with
    |none=>rw[e]at hx;cases hx
    |some ra=>rw[e]at hx;exact⟨ra,rfl,Option.some.inj hx⟩
   have hrr:rs[i]?=some rs[i]:=JJ hlt;have hr4:=hk4 _ (JT hlt);generalize rs[i]=r at hrr hr4;rw[BH hrr]at hb;have smT:aD H (aC H3 T (.tup [V.int (i:Int),V.ref ra])):=sm.trans (aj hT);have eT:aC H3 T (.tup [V.int (i:Int),V.ref ra]) T=some (.tup [V.int (i:Int),V.ref ra]):=ae;generalize aC H3 T (.tup [V.int (i:Int),V.ref ra])=H4 at smT eT ⊢;have rr:=(hrs.2 i ra r hra hrr).up smT;obtain⟨dx,pl,hra4,_⟩:=id rr;walk_at "wp";refine⟨_,jv.of eT,rfl,_,_,rfl,_,_,rfl,rfl,?_⟩;refine⟨_,(rk.icls r.1).ty hra4,_,rk4.kit r.1 0 hr4 nofun,?_⟩;have hb':(if r.1=0/\Gp (tx sg) (tx r.2.sg)=false then some i else fO (tx sg) (rs.drop (i+1)) (i+1))=fO (tx sg) rs 0:=hb
   by_cases e0:r.1=0
   ·rw[if_pos (by simp[e0])]
    obtain⟨r0,v⟩:=r;have e0':r0=0:=e0;subst e0';refine⟨ra,rfl,_,_,_,hra4,rk.i0.cl,rk.a0.2.2.2,_,rfl,_,rfl,?_⟩;cases hin:Gp (tx sg) (tx v.sg) with
    |false=>
     rw[if_pos hin];rw[if_pos ⟨rfl,hin⟩]at hb';rw[<- hb']at tupw;exact⟨au ⋯,tupw H4 _ smT rfl⟩
    |true=>
     rw[if_neg (by rw[show(!(Builtin.Str.occurrences (tx sg) (tx v.sg) 0 (tx sg).length 1).isEmpty)=true from hin];decide)];rw[if_neg (λz=>by rw[hin]at z;exact absurd z.2 nofun)]at hb';exact⟨smT,hb'⟩
   ·rw[if_neg (by simp[e0])]
    rw[if_neg (λz=>e0 z.1)]at hb';exact⟨smT,hb'⟩
  ·rintro σ H' ⟨sm,hb,x,y,rfl⟩
   walk_at "wp";rw[hal,List.drop_of_length_le (J8 _)]at hb;refine good ?_ H' sm;rw[<- hb];rfl
def hJ(m:List (Str×List Nat))(z:Str)(i:Nat):List (Str×List Nat):=m.map λq=>if q.1=z then(q.1,q.2++[i]) else q
structure rf(H0:Hp)(p:Addr)(t:NT)(H:Hp):Prop where
 same:aD H0 H
 at_:cS H p t
 fresh:∀x∈t,H0 x.2.1=none
 nodup:((im t).map (·.1)).Nodup
theorem oy(t:NT):(im t).length=t.length:=by unfold im;rw[JM]
theorem pI(m:List (Str×List Nat))(z:Str):(bS m z).length<=m.length+1:=by
 unfold bS;split
 ·omega
 ·rw[J7];simp
theorem gY(m:List (Str×List Nat))(z:Str)(i:Nat):(hJ m z i).map (·.1)=m.map (·.1):=by
 unfold hJ;rw[JZ]
 apply List.map_congr_left;intro q _;simp only[Function.comp]
 split<;>rfl
theorem zo{m:List (Str×List Nat)}{j i:Nat}{q:Str×List Nat}(nd:(m.map (·.1)).Nodup)(hj:m[j]?=some q):m.set j (q.1,q.2++[i])=hJ m q.1 i:=by
 unfold hJ;apply List.ext_getElem?;intro k;rw[JO,List.getElem?_set];have hlt:j<m.length:=(JK.mp hj).1
 by_cases e:j=k
 ·subst e
  rw[if_pos rfl,if_pos hlt,hj];simp
 ·rw[if_neg e]
  cases hk:m[k]? with
  |none=>rfl
  |some y=>
   have hne:y.1≠q.1:=by
    intro h;have h1:(m.map (·.1))[j]?=some q.1:=by rw[JO,hj];rfl
    have h2:(m.map (·.1))[k]?=some q.1:=by rw[JO,hk];simp[h]
    exact e ((List.getElem?_inj (JK.mp h1).1 nd).mp (h1.trans h2.symm))
   simp[hne]
theorem rf.free{H0 H:Hp}{p:Addr}{t:NT}(N:rf H0 p t H){l:Addr}(h:H l=none):H0 l=none:=N.same.free h
theorem me{te:TE}{σ:St}{H0 H:Hp}{p:Addr}{t:NT}{z:Str}{i:Nat}{Q:VK}(hp:H0 p=none)(hv:σ[i]?=some (some (.ref p)))(hte:∀R:VK,R (.str z) H->te σ H R)(N:rf H0 p t H)(hn:t.length<sizeLine)
  (h:∀(H':Hp) (t':NT) (j:Nat) (x:Str×Addr×List Nat),rf H0 p t' H'->t'[j]?=some x->x.1=z->im t'=bS (im t) z->t'.length<=t.length+1->(∀a o,a≠p->H a=some o->H' a=some o)->Q (.ref x.2.1) H'):uX (Aq i) te (DA pH) σ H Q:=by
 refine⟨.ref p,hv,p,rfl,.inl ⟨_,.inl N.at_.dict⟩,hte _ ⟨J9 _,λl hl=>?_⟩⟩;have hl0:=N.free hl;refine N.at_.setdef hl hn λH' t' j x N' hj hx hm hy hk=>h H' t' j x ⟨λb o e=>hk b o (λq=>by rw[q,hp]at e;exact nomatch e) (N.same b o e),N',λy hyy=>?_,?_⟩ hj hx hm ?_ hk
 ·rcases hy y hyy with q | q
  ·exact N.fresh y q
  ·rw[q];exact hl0
 ·rw[hm];exact j3 N.nodup
 ·have:=pI (im t) z
  rw[<- hm,oy,oy]at this;exact this
theorem rf.put{H0 H:Hp}{p:Addr}{t:NT}{j k:Nat}{x:Str×Addr×List Nat}(N:rf H0 p t H)(hj:t[j]?=some x) :
  rf H0 p (t.set j (x.1,x.2.1,x.2.2++[k])) (aC H x.2.1 (.lst (vp (x.2.2++[k]))))/\im (t.set j (x.1,x.2.1,x.2.2++[k]))=hJ (im t) x.1 k:=by
 have hm:=JP hj;have e:im (t.set j (x.1,x.2.1,x.2.2++[k]))=hJ (im t) x.1 k:=by
  rw[Ch];exact zo (q:=(x.1,x.2.2)) N.nodup (by unfold im;rw[JO,hj];rfl)
 refine⟨⟨bQ N.same (N.fresh x hm),N.at_.put hj,λy hy=>?_,?_⟩,e⟩
 ·rcases List.mem_or_eq_of_mem_set hy with q | q
  ·exact N.fresh y q
  ·rw[q];exact N.fresh x hm
 ·rw[e,gY];exact N.nodup
abbrev dG:Stmt:=gW 48
theorem jB:aB ["start","rules","numbers","k","rule","part"] ["start","rules"] (ak dG):=by walk_at "c"
def dP(m:List (Str×List Nat))(i:Nat)(r:Nat×RV):List (Str×List Nat):=((bR r.1 r.2).map tx).foldl bS (hJ (bS m (tx r.2.n)) (tx r.2.n) i)
def fj:Nat->Yaa->List (Str×List Nat)->List (Str×List Nat)
 |_,[],m=>m
 |i,r::rs,m=>fj (i+1) rs (dP m i r)
theorem jR{m:List (Str×List Nat)}{z:Str}{n:Nat}(h:∀q∈m,q.2.length<=n):∀q∈bS m z,q.2.length<=n:=by
 unfold bS;split
 ·exact h
 ·intro q hq
  rcases JY.mp hq with z1 | z1
  ·exact h q z1
  ·rw[JN.mp z1];exact J9 _
theorem lZ:∀{zs:KQ} {m:List (Str×List Nat)} {n:Nat},(∀q∈m,q.2.length<=n)->∀q∈zs.foldl bS m,q.2.length<=n
 | [],_,_,h=>h
 |z::zs,_,_,h=>lZ (zs:=zs) (jR h)
theorem uE{m:List (Str×List Nat)}{i n:Nat}{r:Nat×RV}(h:∀q∈m,q.2.length<=n):∀q∈dP m i r,q.2.length<=n+1:=by
 unfold dP;refine lZ λq hq=>?_;unfold hJ at hq;obtain⟨q0,hq0,rfl⟩:=Kt.mp hq;have:=jR h q0 hq0
 split
 ·rw[J7];simp;exact this
 ·omega
theorem ng:∀{rs:Yaa} {i n:Nat} {m:List (Str×List Nat)},(∀q∈m,q.2.length<=n)->∀q∈fj i rs m,q.2.length<=n+rs.length
 | [],_,_,_,h=>h
 |r::rs,i,n,m,h=>λq hq=>by
  have:=ng (rs:=rs) (i:=i+1) (uE (i:=i) (r:=r) h) q hq;rw[JW];omega
theorem fJ:∀{rs:Yaa} {i:Nat} {m:List (Str×List Nat)} {r:Nat×RV},fj i (rs++[r]) m=dP (fj i rs m) (i+rs.length) r
 | [],i,m,r=>rfl
 |r0::rs,i,m,r=>by
  show fj (i+1) (rs++[r]) (dP m i r0)=dP (fj (i+1) rs (dP m i r0)) (i+(rs.length+1)) r;rw[fJ,show i+1+rs.length=i+(rs.length+1) by omega]
theorem vY(k:Nat)(v:RV):(bR k v).length<=2:=by
 match k with
 |0=>simp[bR]
 |1=>simp[bR]
 |2=>simp[bR]
 |_+3=>simp[bR]
def bd(z:Str)(rs:Yaa):List (Str×List Nat):=fj 0 rs [(z,[])]
inductive fo(K:W.Frag)(R:RC)(vs:List V)(H:Hp)(Q:VK)(_E:XK):Prop
 |mk (z:Str) (a:Addr) (as:KM) (rs:Yaa) (_:vs=[.str z,.ref a]) (_:H a=some (.lst (as.map V.ref))) (_:bg R H as rs) (_:rs.length<=100) (_:∀p H' t,H p=none->cS H' p t->im t=bd z rs->(∀x∈t,H x.2.1=none)->aD H H'->Q (.ref p) H')
theorem jW{R:RC}{f:Addr}{fd:KO}(F:dw K "numbers_by_name" "numbers_by_name" dG f fd)(nb:NB mg)(rk:lB K R)(yao:v6 P w K mg base bB 1 "parts" (nj K R)):aR P w K mg base bB 2 f fd ["start","rules"] (fo K R):=by
 have sc:=jB;walk_at "f"
 ·obtain⟨r,a,_,_,rfl,_⟩:=h;rfl
 ·obtain⟨z,a,as,rs,rfl,ha,hrs,hn,q⟩:=h
  refine⟨_,(af (aH (i:=2) sc.nd rfl (Or.inl rfl) (C9 (Ab (pv 0) (bE ad) CZ) rfl rfl (by simp) nofun))
   (af (bj PassesOwn.never rfl (mU rfl nb.enumerate (ac (pv 1) ad)) (jE (n:=2) rfl (aS (aA (i:=3) sc.nd rfl (Or.inl rfl)) (aS (aA (i:=4) sc.nd rfl (Or.inl rfl)) dU)))
   (af (bw (eC PySem.F.plainAttrs_list PySem.F.slot_list_append PySem.F.type_list_append bX (nQ (pv 2) (bK (pv 4) rfl) (bE ad) ⟨rfl,rfl,rfl,rfl⟩) (ac (pv 3) ad)))
   (ag (bj PassesOwn.never rfl (bD (AC yao (hr.mono nofun) aM (pv 4))) (aA (i:=5) sc.nd rfl (Or.inl rfl))
   (ag (bw (nQ (pv 2) (pv 5) (bE ad) ⟨rfl,rfl,rfl,rfl⟩)))))))
   (ag (aJ (pv 2))))),?_⟩
  walk_at "wp";intro p hp;refine⟨J9 _,λl hl=>?_⟩;have hlp:l≠p:=λe=>by rw[e,ae]at hl;exact nomatch hl
  have hl0:H l=none:=by rw[ai hlp]at hl;exact hl
  have hap:a≠p:=λe=>by rw[e,hp]at ha;exact nomatch ha
  have hal:a≠l:=λe=>by rw[e,hl0]at ha;exact nomatch ha
  refine⟨by rw[ai (Ne.symm hlp),ae],[(.inr z,.ref l)],rfl,by simp,as.map V.ref,aQ.of (by rw[ai hap,ai hal,ai hap];exact ha),?_⟩;refine kM (xs:=as.map V.ref) (λi σ H'=>aD H H'/\∃t,cS H' p t/\(∀x∈t,H x.2.1=none)/\((im t).map (·.1)).Nodup/\im t=fj 0 (rs.take i) [(z,[])]/\t.length<=1+3*i/\∃x y u,σ=[some (.str z),some (.ref a),some (.ref p),x,y,u]) ?_ ?_ ?_ ?_
  ·refine⟨λb o e=>?_,[(z,l,[])],⟨by rw[ae];rfl,λx hx=>?_,by simp⟩,λx hx=>?_,by simp[im],rfl,by simp,_,_,_,rfl⟩
   ·have h1:b≠p:=λq=>by rw[q,hp]at e;exact nomatch e
    have h2:b≠l:=λq=>by rw[q,hl0]at e;exact nomatch e
    rw[ai h1,ai h2,ai h1];exact e
   ·rw[JN.mp hx,ai hlp,ae];rfl
   ·rw[JN.mp hx];exact hl0
  ·rintro i σ H' _ ⟨sm,_⟩
   exact aQ.of (sm _ _ ha)
  ·rintro i x σ H1 T hx ⟨sm,t,N,fr,nd,em,hlen,x1,y1,u1,rfl⟩ hT
   have hlt:i<rs.length:=by have:=(JK.mp hx).1;rw[JM,hrs.1]at this;exact this
   obtain⟨ra,hra,rfl⟩:∃ra,as[i]?=some ra/\V.ref ra=x:=by
    rw[JO]at hx;cases e:as[i]? with
    |none=>rw[e]at hx;cases hx
    |some ra=>rw[e]at hx;exact⟨ra,rfl,Option.some.inj hx⟩
   have hrr:rs[i]?=some rs[i]:=JJ hlt;generalize rs[i]=r at hrr;have rr:=hrs.2 i ra r hra hrr;have smT:aD H (aC H1 T (.tup [V.int (i:Int),V.ref ra])):=sm.trans (aj hT);have gT:∀b o,H1 b=some o->aC H1 T (.tup [V.int (i:Int),V.ref ra]) b=some o:=aj hT;have eT:jv K (aC H1 T (.tup [V.int (i:Int),V.ref ra])) T [V.int (i:Int),V.ref ra]:=jv.of ae;have N2:=N.grow gT;generalize aC H1 T (.tup [V.int (i:Int),V.ref ra])=H2 at smT gT eT N2 ⊢;clear gT N hT sm H1;simp only[BV,xf,j8,C_];refine⟨_,_,rfl,eT,rfl,_,_,rfl,_,_,rfl,rfl,?_⟩;refine aw λN1 h1=>?_;have rr2:=rr.up smT;have NI:rf H p t H2:=⟨smT,N2,fr,nd⟩;have hz:sizeLine>1000:=bh nofun;obtain⟨dx,pl,hra2,_⟩:=id rr2;walk_at "wp";refine me (z:=tx r.2.n) hp rfl (λS hS=>⟨_,rfl,ra,_,dx,_,_,rfl,hra2,(rk.icls r.1).cl,(rk.name r.1).1,(iU pl r.2 r.1).1,hS⟩) NI ⋯ λH3 t3 j x N3 hj hx hm hl3 hk=>?_;have hxl:=N3.at_.list x (JP hj);refine⟨.inl ⟨rfl,_,aQ.of hxl⟩,_,rfl,_,hxl,?_,h1 _ _ ?_⟩
   ·have h2:(x.1,x.2.2)∈bS (im t) (tx r.2.n):=by rw[<- hm];exact Kt.mpr ⟨x,JP hj,rfl⟩
    have h3:=jR (ng (rs:=rs.take i) (i:=0) (n:=0) (m:=[(z,[])]) (λq hq=>by rw[JN.mp hq];exact J9 _)) (z:=tx r.2.n) (x.1,x.2.2) (by rw[<- em];exact h2);rw[Kk]at h3;unfold vp;rw[JM];have h4:x.2.2.length<=100:=by simp at h3;omega
    omega
   clear h1;obtain⟨N4,hm4⟩:=N3.put (k:=i) hj;have hl4:(t3.set j (x.1,x.2.1,x.2.2++[i])).length<=t.length+1:=by rw[List.length_set];exact hl3
   have hm4:im (t3.set j (x.1,x.2.1,x.2.2++[i]))=hJ (bS (im t) (tx r.2.n)) (tx r.2.n) i:=by rw[hm4,hm,hx]
   have eI:vp (x.2.2++[i])=vp x.2.2++[V.int (i:Int)]:=by unfold vp;rw[JX];rfl
   rw[eI]at N4;generalize t3.set j (x.1,x.2.1,x.2.2++[i])=t4 at N4 hm4 hl4;generalize aC H3 x.2.1 (.lst (vp x.2.2++[V.int (i:Int)]))=H4 at N4 ⊢;clear hk hxl hj N3 hm hl3 hx NI N2 hra2 rr2;have rr4:=rr.up N4.same;have hpk:=vY r.1 r.2;walk_at "wp";refine yn rk rr4 λlp H5 hlp hH5 sm5=>⟨lp,rfl,⟨_,aQ.of hH5⟩,?_⟩;have hpp:lp≠p:=λe=>by rw[e,N4.at_.dict]at hlp;exact nomatch hlp
   refine bZ (xs:=ar (bR r.1 r.2)) (λn σ H'=>n<=(bR r.1 r.2).length/\∃t',rf H p t' H'/\im t'=(((bR r.1 r.2).take n).map tx).foldl bS (hJ (bS (im t) (tx r.2.n)) (tx r.2.n) i)/\t'.length<=t.length+1+n/\H' lp=some (.lst (ar (bR r.1 r.2)))/\∃u,σ=[some (.str z),some (.ref a),some (.ref p),some (.int (i:Int)),some (.ref ra),u])
    ⟨J9 _,t4,⟨N4.same.trans sm5,N4.at_.grow sm5,N4.fresh,N4.nodup⟩,hm4,hl4,hH5,_,rfl⟩ ?_ ?_ ?_
   ·rintro n σ H' _ ⟨_,t',_,_,_,hH',_⟩
    exact aQ.of hH'
   ·rintro n v σ H' hv ⟨hn1,t',N',hm',hl',hH',u,rfl⟩
    have hnl:n<(bR r.1 r.2).length:=by have:=(JK.mp hv).1;rwa [aq]at this
    rw[cy hnl]at hv;cases hv;walk_at "wp";refine me (z:=tx (bR r.1 r.2)[n]) hp rfl (λS hS=>⟨_,rfl,hS⟩) N' ⋯ λH6 t6 j x N6 hj hx hm6 hl6 hk=>?_;refine⟨hnl,t6,N6,?_,⋯,hk _ _ hpp hH'⟩;rw[hm6,hm',List.take_add_one,JJ hnl,JX,List.foldl_append]
    rfl
   ·rintro σ H' ⟨_,t',N',hm',hl',hH',u,rfl⟩
    rw[aq,Kj]at hm';refine⟨N'.same,t',N'.at_,N'.fresh,N'.nodup,?_,?_,_,_,_,rfl⟩
    ·rw[hm',List.take_add_one,hrr,em]
     show _=fj 0 (rs.take i++[r]) _;rw[fJ,Kk,KC (Nat.le_of_lt hlt),Nat.zero_add]
     rfl
    ·rw[aq]at hl';omega
  ·rintro σ H' ⟨sm,t,N,fr,_,em,_,x,y,u,rfl⟩
   walk_at "wp";refine q p H' t hp N ?_ fr sm;rw[em,JM,hrs.1,Kj];rfl
def iD(sg st:KI)(rs:Yaa):Option (Str×List Int):=
 match gL sg st rs with
 |some y=>some y
 |none=>if 8<(bd (tx st) rs).length then some ("names",[((bd (tx st) rs).length:Int)]) else none
def fS(sg st:KI)(lk pn:Addr):List (Str×V):=[("signs",.str (tx sg)),("start",.str (tx st)),("kept",.ref lk),("numbers",.ref pn)]
def cO(R:RC)(H:Hp)(C dx a:Addr)(sg st:KI)(as:KM)(rs:Yaa):Prop:=
 ∃lk pn t,H a=some (.ins C dx (fS sg st lk pn))/\H lk=some (.lst (as.map V.ref))/\bg R H as rs/\cS H pn t/\im t=bd (tx st) rs
def rn(R:RC)(H:Hp)(C dx a:Addr)(sg st:KI)(as:KM)(rs:Yaa)(lk pn:Addr)(t:NT):Prop:=
 H a=some (.ins C dx (fS sg st lk pn))/\H lk=some (.lst (as.map V.ref))/\bg R H as rs/\cS H pn t/\im t=bd (tx st) rs
theorem rn.f{R:RC}{H:Hp}{C dx a:Addr}{sg st:KI}{as:KM}{rs:Yaa}{lk pn:Addr}{t:NT}(g:rn R H C dx a sg st as rs lk pn t):cO R H C dx a sg st as rs:=⟨lk,pn,t,g⟩
theorem cO.up{R:RC}{H H':Hp}{C dx a:Addr}{sg st:KI}{as:KM}{rs:Yaa}(g:cO R H C dx a sg st as rs)(s:aD H H'):cO R H' C dx a sg st as rs:=by
 obtain⟨lk,pn,t,h1,h2,h3,h4,h5⟩:=g;exact⟨lk,pn,t,s _ _ h1,s _ _ h2,h3.up s,h4.grow s,h5⟩
def Ca(a C:Addr)(H:Hp)(y:Str×List Int)(E:XK):Prop:=∀(t d:Addr) (H':Hp),aN a H H'->H' t=some (.tup (Fl y))->H' d=some (.xd [("why",.ref t)])->E (.ref C) (some d) H'
theorem CD(k:Nat)(l:Addr)(v:RV):rR k l v≠[]:=λe=>by
 have:=(iU l v k).1;rw[e]at this;exact nomatch this
theorem bg.upX{R:RC}{H H':Hp}{a C dx:Addr}{as:KM}{rs:Yaa}(h:bg R H as rs)(ha:H a=some (.ins C dx []))(s:aN a H H'):bg R H' as rs:=by
 refine⟨h.1,λi b r e1 e2=>?_⟩;obtain⟨d,l,h1,h2⟩:=h.2 i b r e1 e2;refine⟨d,l,s _ _ (λe=>?_) h1,s _ _ (λe=>?_) h2⟩
 ·rw[e,ha]at h1
  have:=Option.some.inj h1;exact absurd (HO.ins.inj this).2.2.symm (CD _ _ _)
 ·rw[e,ha]at h2;cases h2
abbrev fL:Stmt:=ib 45 0
inductive gN(K:W.Frag)(R:RC)(CF:Addr)(vs:List V)(H:Hp)(Q:VK)(E:XK):Prop
 |mk (a C dx l:Addr) (sg st:KI) (as:KM) (rs:Yaa) (_:vs=[.ref a,.str (tx sg),.str (tx st),.ref l]) (_:H a=some (.ins C dx [])) (_:iQ K C) (_:(ax K C "signs"/\ax K C "start"/\ax K C "kept"/\ax K C "numbers")) (_:sg.length<=1000) (_:st.length<=1000) (_:H l=some (.lst (as.map V.ref))) (_:bg R H as rs) (_:(∀r∈rs,r.1<4)) (_:rs.length<=100) (_:(iD sg st rs=none->∀H' lk pn t,aN a H H'->rn R H' C dx a sg st as rs lk pn t->H lk=none->H pn=none->(∀x∈t,H x.2.1=none)->Q .non H')) (_:∀y,iD sg st rs=some y->Ca a CF H y E)
theorem q8:aB ["self","signs","start","rules"] ["self","signs","start","rules"] (ak fL):=by walk_at "c"
theorem rA{R:RC}{f zca:Addr}{fd:KO}{t1:Tok}(F:dw K "__init__" "Grammar.__init__" fL f fd)(nb:NB mg)(yaK:mg "MOST_NAMES"=some (.int 8 t1))
  (zla:mg "NoGrammar"=some (.ref zca)) (zja:XI P w K mg base 1 zca "why") (yaM:dL P w K mg base (dz P w) 3 "check_made_of" ["signs","start","rules"] (gs R zca)) (yaA:dL P w K mg base bB 2 "numbers_by_name" ["start","rules"] (fo K R)) :
  aR P w K mg base (dz P w) 4 f fd ["self","signs","start","rules"] (gN K R zca):=by
 have sc:=q8;walk_at "x"
 ·obtain⟨a,C,dx,l,sg,st,as,rs,rfl,_⟩:=h;rfl
 ·obtain⟨a,C,dx,l,sg,st,as,rs,rfl,ha,cl,⟨n1,n2,n3,n4⟩,hsg,hst,hl,hrs,hk4,hn,good,bad⟩:=h
  refine⟨_,(af (bw (aE (E:=E) yaM (hr.mono nofun) rfl (dN λ_ _ _ h=>h) (ac (al 1) (ac (al 2) (ac (al 3) ad)))))
   (af (cL (al 0) (al 1) rfl)
   (af (cL (al 0) (al 2) rfl)
   (af (cL (al 0) (c8 cg rfl nb.list eV (ac (al 3) ad)) rfl)
   (af (cL (al 0) (aE (CX:=dz P w) yaA.lift (hr.mono nofun) rfl bY (ac (al 2) (ac (al 3) ad))) rfl)
   (ag (ce (br (bx.m0 wZ) (aP qA rfl nb.len b_ (ac (bK (al 0) rfl) ad)) (cY (v:=.int 8) rfl yaK ⟨_,rfl⟩) (bO _))
   (ag (gc zja (hr.mono nofun) rfl rfl zla (gl λ_ _ _ h=>h) (ac (bJ (b5 (ac (aP qA rfl nb.len b_ (ac (bK (al 0) rfl) ad)) ad))) ad)))
   bu))))))),?_⟩
  walk_at "n";refine⟨sg,st,l,as,rs,rfl,hsg,hst,hl,hrs,hk4,hn,λg0 H1 sm1=>h1 _ _ ?_,λy hy t d H' sm ht hd=>bad y (by unfold iD;rw[hy]) t d H' (.of sm) ht hd⟩;clear h1;have ha1:=sm1 _ _ ha;have hla:l≠a:=λe=>by rw[e,ha]at hl;cases hl
  walk_at "o";refine⟨C,dx,_,ha1,cl,n1,by simp,h2 _ _ ?_⟩;clear h2;have sx2:aN a H (aC H1 a (.ins C dx [("signs",.str (tx sg))])):=(aN.of sm1).put;have ea2:aC H1 a (.ins C dx [("signs",.str (tx sg))]) a=some (.ins C dx [("signs",.str (tx sg))]):=ae;show _;change yL _ _ _ _ (aC H1 a (.ins C dx [("signs",.str (tx sg))]));generalize aC H1 a (.ins C dx [("signs",.str (tx sg))])=H2 at sx2 ea2 ⊢;clear sm1 ha1;refine aw λN3 h3=>?_;walk_at "wp";have d1:¬ (("signs":Str)="start"):=by decide +kernel
  have e3:cq "start" (V.str (tx st)) [(("signs":Str),V.str (tx sg))]=[(("signs":Str),V.str (tx sg)),(("start":Str),V.str (tx st))]:=by simp only[cq,if_neg d1]
  refine⟨C,dx,_,ea2,cl,n2,by simp,?_⟩;rw[e3];refine h3 _ _ ?_;clear h3;have sx3:aN a H (aC H2 a (.ins C dx [(("signs":Str),V.str (tx sg)),(("start":Str),V.str (tx st))])):=sx2.put;have ea3:aC H2 a (.ins C dx [(("signs":Str),V.str (tx sg)),(("start":Str),V.str (tx st))]) a=some (.ins C dx [(("signs":Str),V.str (tx sg)),(("start":Str),V.str (tx st))]):=ae;generalize aC H2 a (.ins C dx [(("signs":Str),V.str (tx sg)),(("start":Str),V.str (tx st))])=H3 at sx3 ea3 ⊢;clear sx2 ea2;have hl3:=sx3 _ _ hla hl;refine aw λN4 h4=>?_;walk_at "wp";refine⟨_,.inl (aQ.of hl3),λlk hlk=>?_⟩;have hka:lk≠a:=λe=>by rw[e,ea3]at hlk;cases hlk
  have hlk0:lk≠l:=λe=>by rw[e,hl3]at hlk;cases hlk
  have sk:aD H3 (aC H3 lk (.lst (as.map V.ref))):=aj hlk;have ek:aC H3 lk (.lst (as.map V.ref)) lk=some (.lst (as.map V.ref)):=ae;have fr1:H lk=none:=by
   cases e:H lk with
   |none=>rfl
   |some u=>rw[sx3 _ _ hka e]at hlk;cases hlk
  generalize aC H3 lk (.lst (as.map V.ref))=H4 at sk ek ⊢;have d2:¬ (("signs":Str)="kept"):=by decide +kernel
  have d3:¬ (("start":Str)="kept"):=by decide +kernel
  have e4:cq "kept" (V.ref lk) [(("signs":Str),V.str (tx sg)),(("start":Str),V.str (tx st))]=[(("signs":Str),V.str (tx sg)),(("start":Str),V.str (tx st)),(("kept":Str),V.ref lk)]:=by simp only[cq,if_neg d2,if_neg d3]
  refine⟨C,dx,_,sk _ _ ea3,cl,n3,by simp,?_⟩;rw[e4];refine h4 _ _ ?_;clear h4;have sx5:aN a H (aC H4 a (.ins C dx [(("signs":Str),V.str (tx sg)),(("start":Str),V.str (tx st)),(("kept":Str),V.ref lk)])):=(sx3.then sk).put;have ea5:aC H4 a (.ins C dx [(("signs":Str),V.str (tx sg)),(("start":Str),V.str (tx st)),(("kept":Str),V.ref lk)]) a=some (.ins C dx [(("signs":Str),V.str (tx sg)),(("start":Str),V.str (tx st)),(("kept":Str),V.ref lk)]):=ae;have ek5:aC H4 a (.ins C dx [(("signs":Str),V.str (tx sg)),(("start":Str),V.str (tx st)),(("kept":Str),V.ref lk)]) lk=some (.lst (as.map V.ref)):=by rw[ai hka];exact ek
  generalize aC H4 a (.ins C dx [(("signs":Str),V.str (tx sg)),(("start":Str),V.str (tx st)),(("kept":Str),V.ref lk)])=H5 at sx5 ea5 ek5 ⊢;refine aw λN5 h5=>?_;walk_at "wp";refine⟨tx st,l,as,rs,rfl,sx5 _ _ hla hl,hrs.upX ha sx5,hn,λpn H6 t hpn hN hm hfr sm6=>?_⟩;have hpa:pn≠a:=λe=>by rw[e,ea5]at hpn;cases hpn
  have hpk:pn≠lk:=λe=>by rw[e,ek5]at hpn;cases hpn
  have fr2:H pn=none:=by
   cases e:H pn with
   |none=>rfl
   |some u=>rw[sx5 _ _ hpa e]at hpn;cases hpn
  have fr3:∀x∈t,H x.2.1=none:=λx hx=>by
   have h5x:=hfr x hx;cases e:H x.2.1 with
   |none=>rfl
   |some u=>rw[sx5 _ _ (λz=>by rw[z,ea5]at h5x;cases h5x) e]at h5x;cases h5x
  have d4:¬ (("signs":Str)="numbers"):=by decide +kernel
  have d5:¬ (("start":Str)="numbers"):=by decide +kernel
  have d6:¬ (("kept":Str)="numbers"):=by decide +kernel
  have e6:cq "numbers" (V.ref pn) [(("signs":Str),V.str (tx sg)),(("start":Str),V.str (tx st)),(("kept":Str),V.ref lk)]=fS sg st lk pn:=by unfold fS;simp only[cq,if_neg d4,if_neg d5,if_neg d6]
  have ea6:=sm6 _ _ ea5;refine⟨C,dx,_,ea6,cl,n4,by simp,?_⟩;rw[e6];refine h5 _ _ ?_;clear h5;have sx7:aN a H (aC H6 a (.ins C dx (fS sg st lk pn))):=(sx5.then sm6).put;have gf:rn R (aC H6 a (.ins C dx (fS sg st lk pn))) C dx a sg st as rs lk pn t:=by
   refine⟨ae,by rw[ai hka];exact sm6 _ _ ek5,hrs.upX ha sx7,⟨by rw[ai hpa];exact hN.dict,λx hx=>?_,hN.apart⟩,hm⟩;have hq:=hN.list x hx;rw[ai (λe=>by rw[e,ea6]at hq;cases hq)];exact hq
  have ea7:aC H6 a (.ins C dx (fS sg st lk pn)) a=some (.ins C dx (fS sg st lk pn)):=ae;have ed7:aC H6 a (.ins C dx (fS sg st lk pn)) pn=some (.dK (vg t)):=by rw[ai hpa];exact hN.dict
  generalize aC H6 a (.ins C dx (fS sg st lk pn))=H7 at sx7 gf ea7 ed7 ⊢;have hlen:(vg t).length=(bd (tx st) rs).length:=by rw[<- hm];unfold vg im;rw[JM,JM]
  walk_at "wp";refine⟨C,dx,_,ea7,cl,n4,_,rfl,pn,rfl,_,ed7,?_⟩;rw[hlen]
  by_cases h8:8<(bd (tx st) rs).length
  ·rw[if_pos ⋯]
   refine⟨C,dx,_,ea7,cl,n4,_,rfl,pn,rfl,_,ed7,au ⋯,λp hp=>⟨au ⋯,λd hd=>?_⟩⟩;rw[hlen]at hd ⊢;have hdp:p≠d:=λx=>by rw[<- x,ae]at hd;cases hd
   refine bad ("names",[((bd (tx st) rs).length:Int)]) (by unfold iD;rw[g0];simp only[];rw[if_pos h8]) p d _ (((sx7.then (aj hp))).then (aj hd)) (by rw[ai hdp,ae];rfl) ae
  ·rw[if_neg ⋯]
   exact good (by unfold iD;rw[g0];simp only[];rw[if_neg h8]) H7 lk pn t sx7 gf fr1 fr2 fr3
abbrev fB:Stmt:=ib 45 2
inductive eO(R:RC)(C:Addr)(vs:List V)(H:Hp)(Q:VK)(_E:XK):Prop
 |mk (a dx:Addr) (sg st:KI) (as:KM) (rs:Yaa) (k:Nat) (b:Addr) (_:vs=[.ref a,.int (k:Int)]) (_:cO R H C dx a sg st as rs) (_:as[k]?=some b) (_:Q (.ref b) H)
theorem rG:aB ["self","k"] ["self","k"] (ak fB):=by walk_at "c"
theorem rZ{R:RC}{f C:Addr}{fd:KO}(F:dw K "rule" "Grammar.rule" fB f fd)(nb:NB mg)(cl:iQ K C)(na:ax K C "signs"/\ax K C "start"/\ax K C "kept"/\ax K C "numbers"):aR P w K mg base bB 1 f fd ["self","k"] (eO R C):=by
 have sc:=rG;walk_at "f"
 ·obtain⟨a,dx,sg,st,as,rs,k,b,rfl,_⟩:=h;rfl
 ·obtain⟨a,dx,sg,st,as,rs,k,b,rfl,g,hb,q⟩:=h
  obtain⟨lk,pn,t,ha,hk,hrs,hN,hm⟩:=id g;have hu:=hr.units;refine⟨_,(ag (aJ (cR cW (bK (al 0) rfl) (al 1) (λ_ _=>rfl)))),?_⟩;walk_at "wp";exact⟨C,dx,_,ha,cl,na.2.2.1,_,rfl,lk,rfl,_,aQ.of hk,_,ci (by rw[JO,hb];rfl),q⟩
inductive C4(R:RC)(C:Addr)(vs:List V)(H:Hp)(Q:VK)(_E:XK):Prop
 |mk (a dx:Addr) (sg st:KI) (as:KM) (rs:Yaa) (_:vs=[.ref a]) (_:cO R H C dx a sg st as rs) (_:Q (.int (rs.length:Int)) H)
theorem qi(z:Str):∀t:NT,(im t).lookup z=(t.find? λx=>decide (x.1=z)).map (·.2.2)
 | []=>rfl
 |x::t=>by
  have ih:=qi z t;unfold im at ih ⊢;rw[Kc,List.lookup_cons,List.find?_cons]
  by_cases e:x.1=z
  ·simp[e]
  ·have e':(z==x.1)=false:=by simpa using λh=>e h.symm
   rw[e',ih];simp[e]
abbrev cM:Stmt:=ib 45 5
inductive du(R:RC)(C CN:Addr)(vs:List V)(H:Hp)(Q:VK)(E:XK):Prop
 |mk (a dx:Addr) (sg st:KI) (as:KM) (rs:Yaa) (z:Str) (_:vs=[.ref a,.str z]) (_:cO R H C dx a sg st as rs) (_:(∀ns,(bd (tx st) rs).lookup z=some ns->∀l H',H l=none->H' l=some (.lst (vp ns))->aD H H'->Q (.ref l) H')) (_:((bd (tx st) rs).lookup z=none->E (.ref CN) none H))
theorem jQ:aB ["self","name"] ["self","name"] (ak cM):=by walk_at "c"
theorem jF{R:RC}{f C yac:Addr}{fd:KO}(F:dw K "numbers_of" "Grammar.numbers_of" cM f fd)(nb:NB mg)(cl:iQ K C)(na:ax K C "signs"/\ax K C "start"/\ax K C "kept"/\ax K C "numbers")(yaz:mg "NoName"=some (.ref yac))(yar:XR K yac):aR P w K mg base (dz P w) 1 f fd ["self","name"] (du R C yac):=by
 have sc:=jQ;walk_at "x"
 ·obtain⟨a,dx,sg,st,as,rs,z,rfl,_⟩:=h;rfl
 ·obtain⟨a,dx,sg,st,as,rs,z,rfl,g,q,x⟩:=h
  obtain⟨lk,pn,t,ha,hk,hrs,hN,hm⟩:=id g;have hu:=hr.units;refine⟨_,(af (ce (nB (lu (Kq (Kv (by decide:1<=64) _) hu) (al 1) (bK (al 0) rfl)) (by with_unfolding_all rfl))
   (ag (ge yar rfl rfl yaz (iM λ_ _ _ h=>h) (b5 ad)))
   bu)
   (ag (aJ (c8 cg rfl nb.list eV (ac (iX (Kq (Kv (by decide:1<=64) _) hu) (bK (al 0) rfl) (al 1) (λ_ _=>rfl)) ad))))),?_⟩
  walk_at "wp";have key:=qi z t;have val:=v4 z t;rw[hm]at key;refine⟨C,dx,_,ha,cl,na.2.2.2,_,rfl,pn,rfl,?_⟩;refine⟨_,.inl ⟨_,.inr z,.inl hN.dict,rfl,rfl⟩,?_⟩;cases hf:t.find? (λx=>decide (x.1=z)) with
  |none=>
   rw[hf]at key val;rw[val];rw[if_pos (by simp)];exact⟨au ⋯,x key⟩
  |some y=>
   rw[hf]at key val;rw[val];rw[if_neg (by simp)];have hy:=hN.list y (List.mem_of_find?_eq_some hf);exact⟨C,dx,_,ha,cl,na.2.2.2,_,rfl,pn,rfl,_,.inl ⟨_,.inr z,.inl hN.dict,rfl,val.symm⟩,_,rfl,_,.inl (aQ.of hy),λl hl=>q _ key l _ hl ae (aj hl)⟩
abbrev eQ:Stmt:=ib 45 4
inductive fW(R:RC)(C:Addr)(vs:List V)(H:Hp)(Q:VK)(_E:XK):Prop
 |mk (a dx:Addr) (sg st:KI) (as:KM) (rs:Yaa) (_:vs=[.ref a]) (_:cO R H C dx a sg st as rs) (_:∀l H',H l=none->H' l=some (.lst ((bd (tx st) rs).map λq=>V.str q.1))->aD H H'->Q (.ref l) H')
theorem pF:aB ["self"] ["self"] (ak eQ):=by walk_at "c"
theorem oW{R:RC}{f C:Addr}{fd:KO}(F:dw K "names" "Grammar.names" eQ f fd)(nb:NB mg)(cl:iQ K C)(na:ax K C "signs"/\ax K C "start"/\ax K C "kept"/\ax K C "numbers"):aR P w K mg base bB 1 f fd ["self"] (fW R C):=by
 have sc:=pF;walk_at "f"
 ·obtain⟨a,dx,sg,st,as,rs,rfl,_⟩:=h;rfl
 ·obtain⟨a,dx,sg,st,as,rs,rfl,g,q⟩:=h
  obtain⟨lk,pn,t,ha,hk,hrs,hN,hm⟩:=id g;have hu:=hr.units;refine⟨_,(ag (aJ (c8 (v9 rfl) rfl nb.list eV (ac (bK (al 0) rfl) ad)))),?_⟩;walk_at "wp";refine⟨C,dx,_,ha,cl,na.2.2.2,_,rfl,pn,rfl,_,hN.dict,λl hl=>q l _ hl ?_ (aj hl)⟩;rw[ae,<- hm];unfold vg im;rw[JZ,JZ]
  rfl
abbrev eU:Stmt:=ib 45 1
inductive fU(R:RC)(C:Addr)(vs:List V)(H:Hp)(Q:VK)(_E:XK):Prop
 |mk (a dx:Addr) (sg st:KI) (as:KM) (rs:Yaa) (_:vs=[.ref a]) (_:cO R H C dx a sg st as rs) (_:∀l H',H l=none->H' l=some (.lst (as.map V.ref))->aD H H'->Q (.ref l) H')
theorem pJ:aB ["self"] ["self"] (ak eU):=by walk_at "c"
theorem pN{R:RC}{f C:Addr}{fd:KO}(F:dw K "rules" "Grammar.rules" eU f fd)(nb:NB mg)(cl:iQ K C)(na:ax K C "signs"/\ax K C "start"/\ax K C "kept"/\ax K C "numbers"):aR P w K mg base bB 1 f fd ["self"] (fU R C):=by
 have sc:=pJ;walk_at "f"
 ·obtain⟨a,dx,sg,st,as,rs,rfl,_⟩:=h;rfl
 ·obtain⟨a,dx,sg,st,as,rs,rfl,g,q⟩:=h
  obtain⟨lk,pn,t,ha,hk,hrs,hN,hm⟩:=id g;have hu:=hr.units;refine⟨_,(ag (aJ (c8 cg rfl nb.list eV (ac (bK (al 0) rfl) ad)))),?_⟩;walk_at "wp";exact⟨C,dx,_,ha,cl,na.2.2.1,_,rfl,lk,rfl,_,.inl (aQ.of hk),λl' hl'=>q l' _ hl' ae (aj hl')⟩
abbrev oh:Stmt:=gW 18
inductive qb(K:W.Frag)(vs:List V)(H:Hp)(Q:VK)(_E:XK):Prop
 |mk (a:Addr) (p:aF) (_:vs=[.ref a]) (_:aQ K H a (ar p)) (_:dH p) (_:gu H (mirror p) Q)
theorem yX:aB ["picture"] ["picture"] (ak oh):=by walk_at "c"
theorem za{f:Addr}{fd:KO}(F:dw K "mirror" "mirror" oh f fd)(nb:NB mg):aR P w K mg base bB 1 f fd ["picture"] (qb K):=by
 have sc:=yX;walk_at "f"
 ·obtain⟨a,p,rfl,_⟩:=h;rfl
 ·obtain⟨a,p,rfl,hS,hp,q⟩:=h
  refine⟨_,(ag (aJ (c5 ["row"] [] rfl (bH.of (by kernel_rfl)) (by kernel_rfl) (bD (al 0))
    (λ_ _ _ _=>(aA (i:=0) (by show(["row"]:List Str).Nodup;decide +kernel) rfl (Or.inl rfl))) (λ_ _ _ _=>cN) (λ_ _ _ _=>(wo rfl rfl nb.reversed (ac (al 0) ad)))))),?_⟩
  walk_at "wp";refine⟨⟨_,hS⟩,dJ (xs:=ar p) (λi acc σ H'=>H'=H/\acc=ar (mirror (p.take i))/\i<=p.length/\∃x,σ=[x]) ⟨rfl,rfl,J9 _,_,rfl⟩ ?_ ?_ ?_ ?_ ?_⟩
  ·rintro i acc σ H' ⟨_,rfl,_⟩
   refine bh ?_;rw[aq];unfold mirror;rw[JM,Kk];have:=hp.1;omega
  ·rintro i acc σ H' ⟨_,_,h,_⟩
   rw[aq];exact h
  ·rintro i acc σ H' ⟨rfl,_⟩
   exact hS
  ·rintro i x acc σ H' hx ⟨rfl,rfl,hi,y,rfl⟩
   have hl:i<p.length:=by have:=(JK.mp hx).1;rwa [aq]at this
   rw[cy hl]at hx;cases hx;have hr:=hp.2 _ (JT hl);walk_at "wp";refine⟨by rw[aG];omega,nofun,?_,hl⟩;rw[dD,qM,List.take_add_one,JJ hl];unfold mirror;rw[JX];exact(cD _ _).symm
  ·rintro acc σ H' ⟨rfl,rfl,_⟩ l hl
   rw[aq,Kj];exact q l _ hl ae (aj hl)
abbrev dh:Stmt:=gW 20
inductive qK(K:W.Frag)(vs:List V)(H:Hp)(Q:VK)(_E:XK):Prop
 |mk (a:Addr) (p:aF) (i:Nat) (_:vs=[.ref a,.int (i:Int)]) (_:aQ K H a (ar p)) (_:dH p) (_:(∀r∈p,i<r.length)) (_:∀H',aD H H'->Q (.str (tx (col p i))) H')
theorem yj:aB ["picture","i"] ["picture","i"] (ak dh):=by walk_at "c"
theorem yy{f:Addr}{fd:KO}(F:dw K "column_from_below" "column_from_below" dh f fd)(nb:NB mg):aR P w K mg base bB 1 f fd ["picture","i"] (qK K):=by
 have sc:=yj;walk_at "f"
 ·obtain⟨a,p,i,rfl,_⟩:=h;rfl
 ·obtain⟨a,p,i,rfl,hS,hp,hi,q⟩:=h
  refine⟨_,(ag (aJ (@qk _ _ _ _ _ _ _ _ (ac (c5 ["row"] [1] rfl (bH.of (by kernel_rfl)) (by kernel_rfl) (Ey rfl nb.reversed (ac (al 0) ad))
    (λ_ _ _ _=>(aA (i:=0) (by show(["row","i"]:List Str).Nodup;decide +kernel) rfl (Or.inl rfl))) (λ_ _ _ _=>cN) (λ_ _ _ _=>(cR tK (al 0) (al 1) (λ_ _=>rfl)))) ad) rfl rfl))),?_⟩
  walk_at "wp";have hd:∀n,((p.reverse.take n).map λr=>V.str ⟨#[r.getD i 0]⟩)=(((p.reverse.take n).map λr=>r.getD i 0).map λc=>(⟨#[c]⟩:Str)).map V.str:=λn=>by rw[JZ,JZ];rfl
  refine⟨rfl,_,hS,AK (xs:=ar p) (λn acc σ H'=>H'=H/\acc=((p.reverse.take n).map λr=>V.str ⟨#[r.getD i 0]⟩)/\n<=p.length/\∃x,σ=[x,some (.int (i:Int))]) ⟨rfl,rfl,J9 _,_,rfl⟩ ?_ ?_ ?_ ?_ ?_⟩
  ·rintro n acc σ H' ⟨_,rfl,_⟩
   refine bh ?_;rw[JM,Kk];have:=hp.1;rw[J2];omega
  ·rintro n acc σ H' ⟨_,_,h,_⟩
   rw[aq];exact h
  ·rintro n acc σ H' ⟨rfl,_⟩
   exact hS
  ·rintro n x acc σ H' hx ⟨rfl,rfl,hn,y,rfl⟩
   have hl:n<p.reverse.length:=by
    have:=(JK.mp hx).1
    rwa [J2,aq,<- J2 (as:=p)]at this
   have hx':(ar p.reverse)[n]?=some x:=by unfold ar at hx ⊢;rwa [List.map_reverse]
   rw[cy hl]at hx';cases hx';have hm:p.reverse[n]∈p:=List.mem_reverse.mp (JT hl);have hr:=hp.2 _ hm;have hri:=hi _ hm;walk_at "wp";have hc:(tx p.reverse[n]).cps.toList[i]?=some (p.reverse[n].getD i 0):=by rw[dD,List.getD_eq_getElem?_getD,JJ hri];rfl
   refine⟨by rw[aG];exact au ⋯,_,ci hc,?_,by rw[J2]at hl;exact hl⟩;rw[List.take_add_one,JJ hl,JX]
   rfl
  ·rintro acc σ H' ⟨rfl,rfl,_⟩ l hl
   rw[aq,<- J2 (as:=p),Kj]at *;refine⟨(col p i).map λc=>(⟨#[c]⟩:Str),.inl (aQ.of ?_),?_,?_⟩
   ·rw[ae];unfold col;rw[JZ,JZ];rfl
   ·rw[JZ]
    have e:((λy:Str=>y.length)∘λc=>(⟨#[c]⟩:Str))=λ_=>1:=by funext c;rfl
    rw[e,List.map_const',List.sum_replicate_nat,JM];have e0:(Str.ofString "").length=0:=rfl;rw[e0];have:=hp.1;unfold col;rw[JM,J2];omega
   ·rw[qM];exact q _ (aj hl)
abbrev lF:Stmt:=gW 19
inductive gJ(K:W.Frag)(vs:List V)(H:Hp)(Q:VK)(_E:XK):Prop
 |mk (a:Addr) (p:aF) (r c:Nat) (_:vs=[.ref a]) (_:aQ K H a (ar p)) (_:rect p r c) (_:0<r) (_:r<=64) (_:c<=64) (_:gu H (aV p) Q)
theorem vZ:aB ["picture"] ["picture"] (ak lF):=by walk_at "c"
theorem ww{f:Addr}{fd:KO}(F:dw K "quarter" "quarter" lF f fd)(nb:NB mg)(yap:dL P w K mg base bB 1 "column_from_below" ["picture","i"] (qK K)):aR P w K mg base bB 2 f fd ["picture"] (gJ K):=by
 have sc:=vZ;walk_at "f"
 ·obtain⟨a,p,r,c,rfl,_⟩:=h;rfl
 ·obtain⟨a,p,r,c,rfl,hS,hp,hr0,hr1,hc1,q⟩:=h
  refine⟨_,(ag (aJ (c5 ["i"] [0] rfl (bH.of (by kernel_rfl)) (by kernel_rfl) (cB rfl nb.range (ac (aP bL rfl nb.len b_ (ac (cR cW (al 0) am (λ_ _=>rfl)) ad)) ad))
    (λ_ _ _ _=>(aA (i:=0) (by show(["i","picture"]:List Str).Nodup;decide +kernel) rfl (Or.inl rfl))) (λ_ _ _ _=>cN) (λ_ _ _ _=>(aE yap (hr.mono nofun) rfl aM (ac (al 1) (ac (al 0) ad))))))),?_⟩
  walk_at "wp";have hl0:0<p.length:=by rw[hp.1];exact hr0
  have hc0:(p[0]).length=c:=hp.2 _ (JT hl0);have hh:(p.headD []).length=c:=aU hp hr0;refine⟨_,hS,_,ci (cy hl0),_,rfl,by rw[aG];exact au ⋯,by rw[aG];omega,by rw[aG];omega,?_⟩;rw[aG,hc0,JU];refine oS (lo:=0) (n:=c) (λi acc σ H'=>aD H H'/\acc=ar ((List.range i).map (col p))/\i<=c/\∃x,σ=[x,some (.ref a)]) ⟨aD.refl _,rfl,J9 _,_,rfl⟩ ?_ ?_ ?_ ?_
  ·rintro i acc σ H' ⟨_,rfl,_⟩
   refine bh ?_;rw[aq,JM,List.length_range];omega
  ·rintro i acc σ H' ⟨_,_,h,_⟩
   exact h
  ·rintro i acc σ H' hi ⟨sm,rfl,_,y,rfl⟩
   walk_at "wp";refine⟨a,p,i,by simp,sm.seq hS,dH.of hp hr1 hc1,λx hx=>by rw[hp.2 x hx];exact hi,λH2 sm2=>⟨sm.trans sm2,?_,hi⟩⟩;rw[List.range_succ,JX];exact(cD _ _).symm
  ·rintro acc σ H' ⟨sm,rfl,_⟩ l hl
   refine q l _ (sm.free hl) ?_ (sm.trans (aj hl));rw[ae];unfold aV;rw[hh]
abbrev n6:Stmt:=gW 17
inductive i8(K:W.Frag)(vs:List V)(H:Hp)(Q:VK)(_E:XK):Prop
 |mk (a:Addr) (p:aF) (r c t:Nat) (_:vs=[.ref a,.int (t:Int)]) (_:aQ K H a (ar p)) (_:rect p r c) (_:0<r) (_:0<c) (_:r<=64) (_:c<=64) (_:t<8) (_:gu H (turned p t) Q)
theorem zg:aB ["picture","t","result","step"] ["picture","t"] (ak n6):=by walk_at "c"
theorem yT{f:Addr}{fd:KO}(F:dw K "turned" "turned" n6 f fd)(nb:NB mg)(yas:dL P w K mg base bB 1 "mirror" ["picture"] (qb K))(yaG:dL P w K mg base bB 2 "quarter" ["picture"] (gJ K)):aR P w K mg base bB 3 f fd ["picture","t"] (i8 K):=by
 have sc:=zg;walk_at "f"
 ·obtain⟨a,p,r,c,t,rfl,_⟩:=h;rfl
 ·obtain⟨a,p,r,c,t,rfl,hS,hp,hr0,hc0,hr1,hc1,ht,q⟩:=h
  refine⟨_,(af (aH (i:=2) sc.nd rfl (Or.inl rfl) (c8 cg rfl nb.list eV (ac (pv 0) ad)))
   (af (ce (br FM (pv 1) am (bO _))
   (ag (aH (i:=2) sc.nd rfl (Or.inl rfl) (aE yas (hr.mono nofun) rfl aM (ac (pv 2) ad))))
   bu)
   (af (bj PassesOwn.never rfl (cB rfl nb.range (ac (az bG (pv 1) am) ad)) (aA (i:=3) sc.nd rfl (Or.inl rfl))
   (ag (aH (i:=2) sc.nd rfl (Or.inl rfl) (aE yaG (hr.mono nofun) rfl aM (ac (pv 2) ad)))))
   (ag (aJ (pv 2)))))),?_⟩
  walk_at "wp"
  -- the aO,from the list at l
  have loop:∀(l:Addr) (p':aF) (H1:Hp),H l=none->H1 l=some (.lst (ar p'))->aD H H1->rect p' r c->turned p t=aO (t%4) p' ->
    ∀(g:TG) (tb:TS) (D:il),g=j8 3->tb=zL (l_ (gJ K) [] E0 (mf (Aq 2) pH)) (j8 2)->(∀σ' H' v,σ'[2]?=some (some v)->Q v H'->D.nx σ' H')->yg (zI 0 ((t:Int)%4).toNat) g tb D [some (V.ref a),some (V.int t),some (V.ref l),none] H1:=by
   intro l p' H1 hl h1 sm hp' et g tb D hg htb hD;subst hg htb;have e4:((t:Int)%4).toNat=t%4:=by omega
   rw[e4];refine b7 (λi σ H2=>∃(l2:Addr) (x:Option V),σ=[some (V.ref a),some (V.int t),some (V.ref l2),x]/\H l2=none/\H2 l2=some (.lst (ar (aO i p')))/\aD H H2) ⟨l,none,rfl,hl,h1,sm⟩ ?_ ?_
   ·rintro i σ H2 hi ⟨l2,x,rfl,h2,h3,sm2⟩
    walk_at "wp";have hq:=dl i hp' hr0 hc0;have gp:∀r' c',rect (aO i p') r' c'->0<r'->r'<=64->c'<=64->gJ K [V.ref l2] H2 (λx_1 H1=>∃l2,x_1=V.ref l2/\H l2=none/\H1 l2=some (HO.lst (ar (aO (i+1) p')))/\aD H H1) E0:=λr' c' h4 h5 h6 h7=>
     ⟨l2,aO i p',r',c',rfl,aQ.of h3,h4,h5,h6,h7,λl3 H3 h8 h9 sm3=>⟨l3,rfl,sm2.free h8,by rw[h9,<- cG 1 i p'];rfl,sm2.trans sm3⟩⟩
    by_cases pr:i%2=0
    ·rw[if_pos pr,if_pos pr]at hq
     exact gp r c hq hr0 hr1 hc1
    ·rw[if_neg pr,if_neg pr]at hq
     exact gp c r hq hc0 hc1 hr1
   ·rintro σ H2 ⟨l2,x,rfl,h2,h3,sm2⟩
    exact hD _ _ _ rfl (q l2 H2 h2 (by rw[h3,et]) sm2)
  refine⟨_,.inl hS,λl hl=>?_⟩
  split
  ·rename_i h4
   refine⟨l,p,rfl,aQ.of ae,dH.of hp hr1 hc1,λl2 H2 h2 h3 sm2=>⟨⋯,⋯,?_⟩⟩;refine loop l2 (mirror p) H2 ((aj hl).free h2) h3 ((aj hl).trans sm2) (bW hp) (by unfold turned;rw[if_pos ⋯]) _ _ _ rfl rfl ?_;intro σ' H' v e hq;exact⟨v,e,hq⟩
  ·rename_i h4
   refine⟨⋯,⋯,?_⟩;refine loop l p _ hl ae (aj hl) hp (by unfold turned;rw[if_neg ⋯]) _ _ _ rfl rfl ?_;intro σ' H' v e hq;exact⟨v,e,hq⟩
def yJ(r:Nat×RV):List V:=match r.1 with
 |0=>[.int 0,.str (tx r.2.n),.int r.2.c,.str (tx r.2.sg),.str ""]
 |1=>[.int 1,.str (tx r.2.n),.int r.2.c,.str (tx r.2.o1),.str (tx r.2.o2)]
 |2=>[.int 2,.str (tx r.2.n),.int r.2.c,.str (tx r.2.o1),.str (tx r.2.o2)]
 |_=>[.int 3,.str (tx r.2.n),.int r.2.c,.str (tx r.2.o1),.int r.2.t]
def Eu(H:Hp)(l:Addr)(ts:KM)(rs:Yaa):Prop:=H l=some (.lst (ts.map V.ref))/\ts.length=rs.length/\∀(i:Nat) t r,ts[i]?=some t->rs[i]?=some r->H t=some (.tup (yJ r))
theorem fQ{k:Nat}(h:k<4):k=0\/k=1\/k=2\/k=3:=by omega
structure pP(r:Nat×RV):Prop where
 k4:r.1<4
 good:r.2.good
 small:r.2.small
structure xA(p:aF)(sg:KI)(r:Nat×RV):Prop where
 good:pP r
 n:r.2.n∈p
 o1:r.2.o1∈p
 o2:r.2.o2∈p
 sg:∃c∈sg,r.2.sg=[c]
def addNew(ks:KQ)(z:Str):List Str:=if z∈ks then ks else ks++[z]
theorem pW(m:List (Str×List Nat))(z:Str):(bS m z).map (·.1)=addNew (m.map (·.1)) z:=by
 unfold bS addNew
 split
 ·rfl
 ·rw[JX];rfl
theorem oN:∀(zs:KQ) (m:List (Str×List Nat)),(zs.foldl bS m).map (·.1)=zs.foldl addNew (m.map (·.1))
 | [],_=>rfl
 |z::zs,m=>by rw[List.foldl_cons,List.foldl_cons,oN zs,pW]
theorem zD(m:List (Str×List Nat))(i:Nat)(r:Nat×RV):(dP m i r).map (·.1)=(tx r.2.n::(bR r.1 r.2).map tx).foldl addNew (m.map (·.1)):=by
 unfold dP;rw[oN,gY,pW,List.foldl_cons]
def idxOf(z:Str)(rs:Yaa):List Nat:=rs.zipIdx.filterMap λx=>if tx x.1.2.n=z then some x.2 else none
theorem wk(z:Str)(rs:Yaa)(r:Nat×RV):idxOf z (rs++[r])=idxOf z rs++if tx r.2.n=z then[rs.length] else[]:=by
 unfold idxOf;rw[List.zipIdx_append,List.filterMap_append]
 congr 1
 simp
 split<;>rename_i h<;>simp[h]
theorem wd{z:Str}:∀{rs:Yaa},(∀r∈rs,tx r.2.n≠z)->idxOf z rs=[]:=by
 intro rs h;unfold idxOf;rw[List.filterMap_eq_nil_iff];intro x hx;rw[if_neg (h x.1 (List.fst_mem_of_mem_zipIdx hx))]
structure NI(rs:Yaa)(m:List (Str×List Nat)):Prop where
 nd:(m.map (·.1)).Nodup
 ix:∀q∈m,q.2=idxOf q.1 rs
 all:∀r∈rs,tx r.2.n∈m.map (·.1)
theorem ny{m:List (Str×List Nat)}{z y:Str}:y∈(bS m z).map (·.1)↔y∈m.map (·.1)\/y=z:=by
 unfold bS
 split
 ·rename_i h
  exact⟨λq=>.inl q,λq=>q.elim id λe=>e▸h⟩
 ·rw[JX,JY];simp
theorem NI.name{rs:Yaa}{m:List (Str×List Nat)}(h:NI rs m)(z:Str):NI rs (bS m z):=by
 refine⟨j3 h.nd,λq hq=>?_,λr hr=>ny.mpr (.inl (h.all r hr))⟩;unfold bS at hq
 split at hq
 ·exact h.ix q hq
 ·rename_i hz
  rcases JY.mp hq with q1 | q1
  ·exact h.ix q q1
  ·rw[JN.mp q1]
   exact(wd (z:=z) λr hr e=>hz (by rw[<- e];exact h.all r hr)).symm
theorem NI.names{rs:Yaa}:∀(zs:KQ) {m:List (Str×List Nat)},NI rs m->NI rs (zs.foldl bS m)
 | [],_,h=>h
 |z::zs,m,h=>NI.names zs (h.name z)
theorem NI.put{rs:Yaa}{m:List (Str×List Nat)}{r:Nat×RV}(h:NI rs m)(hn:tx r.2.n∈m.map (·.1)):NI (rs++[r]) (hJ m (tx r.2.n) rs.length):=by
 refine⟨by rw[gY];exact h.nd,λq hq=>?_,λr' hr'=>?_⟩
 ·unfold hJ at hq
  obtain⟨p,hp,rfl⟩:=Kt.mp hq;rw[wk]
  by_cases e:p.1=tx r.2.n
  ·rw[if_pos e]
   show p.2++[rs.length]=idxOf p.1 rs++_;rw[if_pos e.symm,h.ix p hp]
  ·rw[if_neg e,if_neg (λz=>e z.symm),Kg]
   exact h.ix p hp
 ·rw[gY]
  rcases JY.mp hr' with q | q
  ·exact h.all r' q
  ·rw[JN.mp q];exact hn
theorem i7(z:Str):∀(n:Nat) (rs:Yaa),rs.length=n->NI rs (bd z rs)
 |0,rs,h=>by
  rw[Ks.mp h];exact⟨by simp[bd,fj],λq hq=>by rw[show q=(z,[]) by simpa[bd,fj]using hq];rfl,λr hr=>nomatch hr⟩
 |n+1,rs,h=>by
  obtain⟨rs',r,rfl⟩:∃rs' r,rs=rs'++[r]:=⟨rs.dropLast,rs.getLast (by intro e;rw[e]at h;cases h),(List.dropLast_concat_getLast _).symm⟩;have hl:rs'.length=n:=by rw[J7,List.length_singleton]at h;omega
  have ih:=i7 z n rs' hl;unfold bd at ih ⊢;rw[fJ,Nat.zero_add];unfold dP;exact((ih.name (tx r.2.n)).put (ny.mpr (.inr rfl))).names _
theorem qC:∀{m:List (Str×List Nat)} {q:Str×List Nat},(m.map (·.1)).Nodup->q∈m->m.lookup q.1=some q.2
 |p::m,q,hnd,hq=>by
  rw[Kc,List.nodup_cons]at hnd;rw[List.lookup_cons];rcases J0.mp hq with e | e
  ·rw[e];simp
  ·have hne:q.1≠p.1:=λz=>hnd.1 (z▸List.mem_map_of_mem e)
   have:(q.1==p.1)=false:=beq_eq_false_iff_ne.mpr hne;rw[this];exact qC hnd.2 e
theorem DB{z:Str}{rs:Yaa}{q:Str×List Nat}(h:q∈bd z rs):(bd z rs).lookup q.1=some (idxOf q.1 rs)/\q.2=idxOf q.1 rs:=by
 have N:=i7 z _ rs rfl;have e:=N.ix q h;exact⟨by rw[qC N.nd h,e],e⟩
def Fk(rs:Yaa):List ThM.NR:=rs.map λr=>(tx r.2.n,(bR r.1 r.2).map tx)
theorem wK{ks:KQ}{z y:Str}:y∈addNew ks z↔y∈ks\/y=z:=ThM.mem_addNew
theorem kf{y:Str}:∀(zs ks:KQ),y∈zs.foldl addNew ks↔y∈ks\/y∈zs
 | [],ks=>by simp
 |z::zs,ks=>by
  rw[List.foldl_cons,kf zs,wK,J0];exact⟨λh=>h.elim (λh=>h.elim .inl λe=>.inr (.inl e)) λh=>.inr (.inr h),λh=>h.elim (λh=>.inl (.inl h)) λh=>h.elim (λe=>.inl (.inr e)) .inr⟩
theorem xY(z:Str)(rs:Yaa)(r:Nat×RV):(bd z (rs++[r])).map (·.1)=(tx r.2.n::(bR r.1 r.2).map tx).foldl addNew ((bd z rs).map (·.1)):=by
 unfold bd;rw[fJ,zD]
theorem Bm{α:Type}{P:List α->Prop}(h0:P [])(h1:∀rs r,P rs->P (rs++[r]))(rs:List α):P rs:=by
 have:∀(n:Nat) (rs:List α),rs.length=n->P rs:=by
  intro n
  induction n with
  |zero=>intro rs h;rw[Ks.mp h];exact h0
  |succ n ih=>
   intro rs h;have hne:rs≠[]:=by intro e;rw[e]at h;cases h
   rw[<- List.dropLast_concat_getLast hne];exact h1 _ _ (ih _ (by rw[List.length_dropLast];omega))
 exact this _ rs rfl
theorem kh(z:Str)(rs:Yaa):∀y,y∈(bd z rs).map (·.1)↔y=z\/∃r∈Fk rs,y=r.1\/y∈r.2:=by
 refine Bm (P:=λrs=>∀y,y∈(bd z rs).map (·.1)↔y=z\/∃r∈Fk rs,y=r.1\/y∈r.2) ?_ ?_ rs
 ·intro y
  have e:(bd z []).map (·.1)=[z]:=rfl;rw[e];unfold Fk;simp
 ·intro rs r ih y
  rw[xY,kf,ih y,J0];unfold Fk;rw[JX]
  constructor
  ·rintro((h | ⟨q,hq,h⟩) | h)
   ·exact .inl h
   ·exact .inr ⟨q,JY.mpr (.inl hq),h⟩
   ·exact .inr ⟨_,JY.mpr (.inr (JN.mpr rfl)),h⟩
  ·rintro(h | ⟨q,hq,h⟩)
   ·exact .inl (.inl h)
   ·rcases JY.mp hq with hq | hq
    ·exact .inl (.inr ⟨q,hq,h⟩)
    ·rw[JN.mp hq]at h
     exact .inr h
theorem CP{sg:KI}{c:Nat}(h:c∈sg):Gp (tx sg) (tx [c])=true:=by
 have:=StrLaws.found_one (tx sg) c;show(!(Builtin.Str.occurrences (tx sg) ⟨#[c]⟩ 0 (tx sg).length 1).isEmpty)=true;rw[this,dD,decide_eq_true h]
theorem j5{sg:KI}:∀{rs:Yaa} {j:Nat},(∀r∈rs,∃c∈sg,r.2.sg=[c])->fO (tx sg) rs j=none
 | [],_,_=>rfl
 |r::rs,j,h=>by
  obtain⟨c,hc,e⟩:=h r List.mem_cons_self;unfold fO;rw[if_neg (λz=>by rw[e,CP hc]at z;exact absurd z.2 nofun)];exact j5 λr' hr'=>h r' (J1 _ hr')
theorem yp{p:aF}{sg st:KI}{rs:Yaa}(hsg:jL sg=true)(hst:st∈p)(hpn:∀r∈p,df r=true)(hp:p.length<=8)(hn:rs.length<=24)(hr:∀r∈rs,xA p sg r):iD sg st rs=none:=by
 have h0:gL sg st rs=none:=by
  unfold gL;rw[if_neg (by rw[hsg];decide),if_neg (by rw[hpn _ hst];decide),if_neg ⋯,j5 λr h=>(hr r h).sg]
 unfold iD;rw[h0];simp only[];rw[if_neg];have hk:∀z∈(bd (tx st) rs).map (·.1),z∈p.map tx:=λz hz=>by
  rcases(kh _ _ _).mp hz with e | ⟨q,hq,e⟩
  ·rw[e];exact List.mem_map_of_mem hst
  ·unfold Fk at hq
   obtain⟨r,hr',rfl⟩:=Kt.mp hq;have R:=hr r hr';rcases e with e | e
   ·rw[e];exact List.mem_map_of_mem R.n
   ·obtain⟨y,hy,rfl⟩:=Kt.mp e
    refine List.mem_map_of_mem ?_;obtain⟨k,v⟩:=r;rcases fQ R.good.k4 with rfl | rfl | rfl | rfl
    ·exact absurd hy List.not_mem_nil
    ·rcases(show y=v.o1\/y=v.o2 by simpa[bR]using hy) with rfl | rfl
     ·exact R.o1
     ·exact R.o2
    ·rcases(show y=v.o1\/y=v.o2 by simpa[bR]using hy) with rfl | rfl
     ·exact R.o1
     ·exact R.o2
    ·rw[show y=v.o1 by simpa[bR]using hy];exact R.o1
 have:=ThM.nd_len (i7 (tx st) _ rs rfl).nd hk;rw[JM,JM]at this;omega
theorem bg.zip{R:RC}{H:Hp}{as:KM}{rs:Yaa}(h:bg R H as rs):(as.zip rs).map (λx=>V.ref x.1)=as.map V.ref/\(as.zip rs).map (·.2)=rs/\∀x∈as.zip rs,fT R H x.2.1 x.1 x.2.2:=by
 refine⟨?_,List.map_snd_zip (by have:=h.1;omega),λx hx=>?_⟩
 ·have e:(as.zip rs).map (λx=>V.ref x.1)=((as.zip rs).map Prod.fst).map V.ref:=by rw[JZ];rfl
  rw[e,List.map_fst_zip (by have:=h.1;omega)]
 ·obtain⟨i,hi,e⟩:=List.mem_iff_getElem.mp hx
  have e2:(as.zip rs)[i]?=some x:=by rw[JJ hi,e]
  rw[List.getElem?_zip_eq_some]at e2;exact h.2 i x.1 x.2 e2.1 e2.2
structure G7(K:W.Frag)(C:Addr):Prop where
 cl:jc K C
 na:ax K C "signs"/\ax K C "start"/\ax K C "kept"/\ax K C "numbers"
abbrev qW:Stmt:=gW 9
theorem E4(x:Str):x=tx x.cps.toList:=by unfold tx;simp
theorem xw(p:aF):Txt.join (Str.ofString "/") (p.map tx)=tx (SpM.glue 47 p):=by
 have e:(Txt.join (Str.ofString "/") (p.map tx)).cps.toList=SpM.glue 47 p:=by
  have h:=SpM.join_glue 47 (p.map tx);rw[JZ]at h;have e2:((λy:Str=>y.cps.toList)∘tx)=id:=by funext r;exact dD r
  rw[e2,List.map_id]at h;exact h
 rw[<- e];exact E4 _
inductive dX(K:W.Frag)(vs:List V)(H:Hp)(Q:VK)(_E:XK):Prop
 |mk (a:Addr) (p:aF) (_:vs=[.ref a]) (_:H a=some (.lst (ar p))) (_:dH p) (_:Q (.str (tx (SpM.glue 47 p))) H)
theorem zK:aB ["picture"] ["picture"] (ak qW):=by walk_at "c"
theorem e_:∀{p:aF} {n:Nat},(∀r∈p,r.length<=n)->((p.map tx).map λy:Str=>y.length).sum<=p.length*n
 | [],n,_=>by simp
 |r::p,n,h=>by
  have h1:=h r (by simp);have h2:=e_ (p:=p) (n:=n) λx hx=>h x (by simp[hx]);simp only[Kc,List.sum_cons,aG,JW];rw[Nat.succ_mul];omega
theorem Ad{f:Addr}{fd:KO}(F:dw K "shown" "shown" qW f fd):aR P w K mg base bB 1 f fd ["picture"] (dX K):=by
 have sc:=zK;walk_at "f"
 ·obtain⟨a,p,rfl,_⟩:=h;rfl
 ·obtain⟨a,p,rfl,ha,hs,q⟩:=h
  refine⟨_,(ag (aJ (@qk _ _ _ _ _ _ _ _ (ac (al 0) ad) rfl rfl))),?_⟩;walk_at "wp";refine⟨rfl,p.map tx,.inl (by rw[<- dM];exact aQ.of ha),?_,?_⟩
  ·have:=e_ hs.2
   have h1:=hs.1;have e0:(Str.ofString "/").length=1:=rfl;rw[JM,e0];have h2:p.length*64<=64*64:=Nat.mul_le_mul_right _ h1;omega
  ·rw[xw];exact q
abbrev nU:Stmt:=gW 14
def pQ(sb:Bool)(p:aF)(n:Nat):aF:=if sb=true then p.map (List.take n) else p.take n
def kR(sb:Bool)(p:aF)(n:Nat):aF:=if sb=true then p.map (List.drop n) else p.drop n
inductive qr(K:W.Frag)(vs:List V)(H:Hp)(Q:VK)(_E:XK):Prop
 |mk (sb:Bool) (a:Addr) (p:aF) (r c n:Nat) (_:vs=[.ref a,.bl sb,.int (n:Int)]) (_:aQ K H a (ar p)) (_:rect p r c) (_:r<=6) (_:c<=6) (_:n<=(if sb=true then c else r)) (_:∀(t l1 l2:Addr) (H':Hp),H t=none->H l1=none->H l2=none->l1≠l2->H' t=some (.tup [.ref l1,.ref l2])->H' l1=some (.lst (ar (pQ sb p n)))->H' l2=some (.lst (ar (kR sb p n)))->aD H H'->Q (.ref t) H')
theorem zq:aB ["picture","side_by_side","at"] ["picture","side_by_side","at"] (ak nU):=by walk_at "c"
theorem AF{row:KI}{n:Nat}(h:n<=row.length):Txt.slice (tx row) none (some (n:Int))=tx (row.take n):=by
 rw[i6,HT.sIx_nat,KC h];show tx ((row.drop 0).take (n-0))=_;rw[KD,Nat.sub_zero]
theorem wR{row:KI}{n:Nat}(h:n<=row.length):Txt.slice (tx row) (some (n:Int)) none=tx (row.drop n):=by
 rw[i6,HT.sIx_nat,KC h];show tx ((row.drop n).take (row.length-n))=_;rw[List.take_of_length_le (by rw[Kl];omega)]
theorem Ej{p:aF}{n:Nat}(h:n<=p.length):kc (ar p) none (some (n:Int))=ar (p.take n):=by
 unfold kc;rw[HT.sIx_nat,aq,KC h];show((ar p).drop 0).take (n-0)=_;rw[KD,Nat.sub_zero];unfold ar;rw[List.map_take]
theorem AH{p:aF}{n:Nat}(h:n<=p.length):kc (ar p) (some (n:Int)) none=ar (p.drop n):=by
 unfold kc;rw[HT.sIx_nat,aq,KC h];show((ar p).drop n).take (p.length-n)=_;rw[List.take_of_length_le (by rw[Kl,aq];omega)];unfold ar;rw[List.map_drop]
theorem yP{f:Addr}{fd:KO}(F:dw K "parted" "parted" nU f fd)(nb:NB mg):aR P w K mg base bB 1 f fd ["picture","side_by_side","at"] (qr K):=by
 have sc:=zq;walk_at "f"
 ·obtain⟨sb,a,p,r,c,n,rfl,_⟩:=h;rfl
 ·obtain⟨sb,a,p,r,c,n,rfl,hS,hp,hr1,hc1,hn,q⟩:=h
  refine⟨_,(af (ce (jr (al 1) λ_=>rfl)
   (ag (aJ (bJ (ac (c5 ["row"] [2] rfl (bH.of (by kernel_rfl)) (by kernel_rfl) (bD (al 0))
    (λ_ _ _ _=>(aA (i:=0) (by show(["row","at"]:List Str).Nodup;decide +kernel) rfl (Or.inl rfl))) (λ_ _ _ _=>cN) (λ_ _ _ _=>(dk qV (al 0) fF (dr (al 1))))) (ac (c5 ["row"] [2] rfl (bH.of (by kernel_rfl)) (by kernel_rfl) (bD (al 0))
    (λ_ _ _ _=>(aA (i:=0) (by show(["row","at"]:List Str).Nodup;decide +kernel) rfl (Or.inl rfl))) (λ_ _ _ _=>cN) (λ_ _ _ _=>(dk qV (al 0) (dr (al 1)) fF))) ad)))))
   bu)
   (ag (aJ (bJ (ac (dk i9 (al 0) fF (dr (al 2))) (ac (dk i9 (al 0) (dr (al 2)) fF) ad)))))),?_⟩
  walk_at "wp";cases sb with
  |true=>
   rw[if_pos rfl]at hn ⊢;refine⟨⟨_,hS⟩,dJ (xs:=ar p) (λi acc σ H'=>H'=H/\acc=ar ((p.take i).map (List.take n))/\i<=p.length/\∃y,σ=[y,some (V.int (n:Int))]) ⟨rfl,rfl,J9 _,_,rfl⟩ ?_ ?_ ?_ ?_ ?_⟩
   ·rintro i acc σ H' ⟨_,rfl,hi,_⟩
    rw[aq,JM,Kk];exact bh (by rw[hp.1]at *;omega)
   ·rintro i acc σ H' ⟨_,_,h,_⟩
    rw[aq];exact h
   ·rintro i acc σ H' ⟨rfl,_⟩
    exact hS
   ·rintro i v acc σ H' hx ⟨rfl,rfl,hi,y,rfl⟩
    have hl:i<p.length:=by have:=(JK.mp hx).1;rwa [aq]at this
    rw[cy hl]at hx;cases hx;have hrow:=hp.2 _ (JT hl);walk_at "wp";refine⟨by rw[aG];exact au ⋯,?_,hl⟩;rw[AF ⋯,List.take_add_one,JJ hl,JX];exact(cD _ _).symm
   ·rintro acc σ H' ⟨rfl,rfl,_⟩ l1 hl1
    rw[aq,Kj];have sm:aD H' (aC H' l1 (HO.lst (ar (p.map (List.take n))))):=aj hl1;have h1:aC H' l1 (HO.lst (ar (p.map (List.take n)))) l1=some (HO.lst (ar (p.map (List.take n)))):=ae;generalize aC H' l1 (HO.lst (ar (p.map (List.take n))))=H1 at sm h1 ⊢;refine⟨⟨_,sm.seq hS⟩,dJ (xs:=ar p) (λi acc σ H2=>H2=H1/\acc=ar ((p.take i).map (List.drop n))/\i<=p.length/\∃y,σ=[y,some (V.int (n:Int))]) ⟨rfl,rfl,J9 _,_,rfl⟩ ?_ ?_ ?_ ?_ ?_⟩
    ·rintro i acc σ H2 ⟨_,rfl,hi,_⟩
     rw[aq,JM,Kk];exact bh (by rw[hp.1]at *;omega)
    ·rintro i acc σ H2 ⟨_,_,h,_⟩
     rw[aq];exact h
    ·rintro i acc σ H2 ⟨rfl,_⟩
     exact sm.seq hS
    ·rintro i v acc σ H2 hx ⟨rfl,rfl,hi,y,rfl⟩
     have hl:i<p.length:=by have:=(JK.mp hx).1;rwa [aq]at this
     rw[cy hl]at hx;cases hx;have hrow:=hp.2 _ (JT hl);walk_at "wp";refine⟨by rw[aG];exact au ⋯,?_,hl⟩;rw[wR ⋯,List.take_add_one,JJ hl,JX];exact(cD _ _).symm
    ·rintro acc σ H2 ⟨rfl,rfl,_⟩ l2 hl2
     rw[aq,Kj];refine⟨au ⋯,λt ht=>?_⟩;have n2:l1≠l2:=av h1 hl2;have sm2:∀o,aD H2 (aC H2 l2 o):=λo=>aj hl2;refine q t l1 l2 _ ?_ hl1 (sm.free hl2) n2 ae ?_ ?_ ((sm.trans (sm2 _)).trans (aj ht))
     ·exact sm.free ((sm2 _).free ht)
     ·exact(aj ht) _ _ ((sm2 _) _ _ h1)
     ·exact(aj ht) _ _ ae
  |false=>
   rw[if_neg nofun]at hn ⊢;refine⟨_,hS,λl1 hl1=>?_⟩;rw[Ej (by rw[hp.1];exact hn)];have sm:aD H (aC H l1 (HO.lst (ar (p.take n)))):=aj hl1;have h1:aC H l1 (HO.lst (ar (p.take n))) l1=some (HO.lst (ar (p.take n))):=ae;generalize aC H l1 (HO.lst (ar (p.take n)))=H1 at sm h1 ⊢;refine⟨_,sm.seq hS,λl2 hl2=>⟨au ⋯,λt ht=>?_⟩⟩;rw[AH (by rw[hp.1];exact hn)]at ht ⊢;have n2:l1≠l2:=av h1 hl2;have sm2:∀o,aD H1 (aC H1 l2 o):=λo=>aj hl2;refine q t l1 l2 _ ?_ hl1 (sm.free hl2) n2 ae ?_ ?_ ((sm.trans (sm2 _)).trans (aj ht))
   ·exact sm.free ((sm2 _).free ht)
   ·exact(aj ht) _ _ ((sm2 _) _ _ h1)
   ·exact(aj ht) _ _ ae
abbrev vt:Stmt:=gW 22
inductive w_(vs:List V)(H:Hp)(Q:VK)(_E:XK):Prop
 |mk (t:Nat) (_:vs=[.int (t:Int)]) (_:t<8) (_:Q (.int (dA t:Nat)) H)
theorem CW:aB ["t"] ["t"] (ak vt):=by walk_at "c"
theorem CJ{f:Addr}{fd:KO}(F:dw K "back" "back" vt f fd):aR P w K mg base bB 1 f fd ["t"] w_:=by
 have sc:=CW;walk_at "f"
 ·obtain⟨t,rfl,_⟩:=h;rfl
 ·obtain⟨t,rfl,ht,q⟩:=h
  refine⟨_,(af (ce (br (bx.m0 uk) (al 0) am (bO _))
   (ag (aJ (az (bx.m1 bG) (az (bx.m0 jI) am (al 0)) am)))
   bu)
   (ag (aJ (al 0)))),?_⟩
  walk_at "wp"
  split
  ·have e:((dA t:Nat):Int)=(4-(t:Int))%4:=by unfold dA;rw[if_pos ⋯];omega
   rw[<- e];exact q
  ·have e:((dA t:Nat):Int)=(t:Int):=by unfold dA;rw[if_neg ⋯]
   rw[<- e];exact q
abbrev gz:Stmt:=gW 10
def bI(H:Hp):List Addr->List Wn->Prop
 | [],[]=>True
 |b::bs,x::xs=>H b=some (.tup (x.map V.int))/\bI H bs xs
 |_,_=>False
theorem bI.same{H H':Hp}(sm:aD H H'):∀{bs:KM} {xs:List Wn},bI H bs xs->bI H' bs xs
 | [],[],_=>trivial
 |_::_,_::_,h=>⟨sm _ _ h.1,bI.same sm h.2⟩
 | [],_::_,h=>h.elim
 |_::_,[],h=>h.elim
theorem bI.snoc{H:Hp}{b:Addr}{x:Wn}(hb:H b=some (.tup (x.map V.int))):∀{bs:KM} {xs:List Wn},bI H bs xs->bI H (bs++[b]) (xs++[x])
 | [],[],_=>⟨hb,trivial⟩
 |_::_,_::_,h=>⟨h.1,bI.snoc hb h.2⟩
 | [],_::_,h=>h.elim
 |_::_,[],h=>h.elim
theorem bI.get{H:Hp}:∀{bs:KM} {xs:List Wn} {i:Nat} {b:Addr},bI H bs xs->bs[i]?=some b->∃x,xs[i]?=some x/\H b=some (.tup (x.map V.int))
 | [],_,_,_,_,e=>by simp at e
 |c::bs,x::xs,0,b,h,e=>by simp at e;subst e;exact⟨x,rfl,h.1⟩
 |c::bs,x::xs,i+1,b,h,e=>by
  obtain⟨y,h1,h2⟩:=bI.get (i:=i) h.2 (by simpa using e);exact⟨y,by simpa using h1,h2⟩
 |_::_,[],_,_,h,_=>h.elim
theorem bI.length{H:Hp}:∀{bs:KM} {xs:List Wn},bI H bs xs->bs.length=xs.length
 | [],[],_=>rfl
 |_::_,_::_,h=>by simp[bI.length h.2]
 | [],_::_,h=>h.elim
 |_::_,[],h=>h.elim
inductive jm(vs:List V)(H:Hp)(Q:VK)(_E:XK):Prop
 |mk (r c:Nat) (_:vs=[.int (r:Int),.int (c:Int)]) (_:r<=8) (_:c<=8) (_:∀(l:Addr) (bs:KM) (H':Hp),H l=none->H' l=some (.lst (bs.map V.ref))->bI H' bs (jG r c)->aD H H'->Q (.ref l) H')
theorem pA:aB ["rows","columns","windows","top","left","bottom","right"] ["rows","columns"] (ak gz):=by walk_at "c"
structure gj(H H':Hp)(l:Addr)(xs:List Wn)(n:Nat):Prop where
 ex:∃bs:List Addr,H' l=some (.lst (bs.map V.ref))/\bI H' bs xs/\bs.length<=n
 sm:aD H H'
theorem gj.more{H H':Hp}{l:Addr}{xs:List Wn}{n m:Nat}(h:gj H H' l xs n)(hm:n<=m):gj H H' l xs m:=
 ⟨let ⟨bs,h1,h2,h3⟩:=h.ex;⟨bs,h1,h2,Kd h3 hm⟩,h.sm⟩
theorem gj.snoc{H H':Hp}{l p:Addr}{xs:List Wn}{x:Wn}{n:Nat}{bs:KM}(hl:H l=none)(h1:H' l=some (.lst (bs.map V.ref)))(h2:bI H' bs xs)(h3:bs.length<=n)(sm:aD H H')(hp:H' p=none) :
  gj H (aC (aC H' p (.tup (x.map V.int))) l (.lst (bs.map V.ref++[V.ref p]))) l (xs++[x]) (n+1):=by
 have npl:p≠l:=λe=>by rw[e,h1]at hp;cases hp
 refine⟨⟨bs++[p],?_,?_,by rw[J7,List.length_singleton];omega⟩,bQ (bQ sm (sm.free hp)) hl⟩
 ·rw[ae,JX];rfl
 ·refine bI.snoc (by rw[ai npl,ae]) ?_
  -- no tuple is the list
  have key:∀{cs:KM} {ys:List Wn},bI H' cs ys->bI (aC (aC H' p (.tup (x.map V.int))) l (.lst (bs.map V.ref++[V.ref p]))) cs ys:=by
   intro cs
   induction cs with
   |nil=>intro ys h;cases ys with
    |nil=>trivial
    |cons _ _=>exact h.elim
   |cons c cs ih=>
    intro ys h;cases ys with
    |nil=>exact h.elim
    |cons y ys=>
     have ncl:c≠l:=p_ h.1 h1 (by intro z;cases z);exact⟨by rw[ai ncl,ai (av h.1 hp)];exact h.1,ih h.2⟩
  exact key h2
theorem pC{f:Addr}{fd:KO}(F:dw K "windows_of" "windows_of" gz f fd)(nb:NB mg):aR P w K mg base bB 1 f fd ["rows","columns"] jm:=by
 have sc:=pA;walk_at "f"
 ·obtain⟨r,c,rfl,_⟩:=h;rfl
 ·obtain⟨r,c,rfl,hr1,hc1,q⟩:=h
  refine⟨_,(af (aH (i:=2) sc.nd rfl (Or.inl rfl) (bE ad))
   (af (bj PassesOwn.never rfl (cB rfl nb.range (ac (al 0) ad)) (aA (i:=3) sc.nd rfl (Or.inl rfl))
   (ag (bj PassesOwn.never rfl (cB rfl nb.range (ac (al 1) ad)) (aA (i:=4) sc.nd rfl (Or.inl rfl))
   (ag (bj PassesOwn.never rfl (iW rfl nb.range (ac (az (bx.m0 bi) (al 3) am) (ac (az (bx.m0 bi) (al 0) am) ad))) (aA (i:=5) sc.nd rfl (Or.inl rfl))
   (ag (bj PassesOwn.never rfl (iW rfl nb.range (ac (az (bx.m0 bi) (al 4) am) (ac (az (bx.m0 bi) (al 1) am) ad))) (aA (i:=6) sc.nd rfl (Or.inl rfl))
   (ag (bw (eC PySem.F.plainAttrs_list PySem.F.slot_list_append PySem.F.type_list_append bX (al 2) (ac (bJ (ac (al 3) (ac (al 4) (ac (al 5) (ac (al 6) ad))))) ad)))))))))))
   (ag (aJ (al 2))))),?_⟩
  walk_at "wp";refine⟨au ⋯,λl hl=>⟨⋯,⋯,?_⟩⟩;rw[JU];refine b7 (lo:=0) (n:=r) (λt σ H1=>t<=r/\gj H H1 l (W1 r c t) (t*1000)/\∃x3 x4 x5 x6,σ=[some (V.int r),some (V.int c),some (V.ref l),x3,x4,x5,x6])
   ⟨J9 _,⟨⟨[],ae,trivial,J9 _⟩,aj hl⟩,_,_,_,_,rfl⟩ ?_ ?_
  ·rintro t σ H1 ht ⟨_,w1,x3,x4,x5,x6,rfl⟩
   walk_at "wp";refine⟨⋯,⋯,?_⟩;rw[JU];refine b7 (lo:=0) (n:=c) (λlf σ H2=>lf<=c/\gj H H2 l (W1 r c t++W2 r c t lf) (t*1000+lf*100)/\∃x4 x5 x6,σ=[some (V.int r),some (V.int c),some (V.ref l),some (V.int t),x4,x5,x6])
    ⟨J9 _,by show gj H H1 l (W1 r c t++[]) _;rw[Kg];exact w1.more ⋯,_,_,_,rfl⟩ ?_ ?_
   ·rintro lf σ H2 hlf ⟨_,w2,x4,x5,x6,rfl⟩
    walk_at "wp";refine⟨⋯,⋯,⋯,⋯,?_⟩;rw[show((r:Int)+1-((t:Int)+1)).toNat=r-t by omega];refine b7 (lo:=(t:Int)+1) (n:=r-t) (λbt σ H3=>bt<=r-t/\gj H H3 l (W1 r c t++W2 r c t lf++W3 c t lf bt) (t*1000+lf*100+bt*10)/\∃x5 x6,σ=[some (V.int r),some (V.int c),some (V.ref l),some (V.int t),some (V.int lf),x5,x6])
     ⟨J9 _,by show gj H H2 l (W1 r c t++W2 r c t lf++[]) _;rw[Kg];exact w2.more ⋯,_,_,rfl⟩ ?_ ?_
    ·rintro bt σ H3 hbt ⟨_,w3,x5,x6,rfl⟩
     walk_at "wp";refine⟨⋯,⋯,⋯,⋯,?_⟩;rw[show((c:Int)+1-((lf:Int)+1)).toNat=c-lf by omega];refine b7 (lo:=(lf:Int)+1) (n:=c-lf) (λk σ H4=>k<=c-lf/\gj H H4 l (W1 r c t++W2 r c t lf++W3 c t lf bt++W4 t lf (t+1+bt) k) (t*1000+lf*100+bt*10+k)/\∃x6,σ=[some (V.int r),some (V.int c),some (V.ref l),some (V.int t),some (V.int lf),some (V.int ((t:Int)+1+bt)),x6])
      ⟨J9 _,by show gj H H3 l (W1 r c t++W2 r c t lf++W3 c t lf bt++[]) _;rw[Kg];exact w3.more ⋯,_,rfl⟩ ?_ ?_
     ·rintro k σ H4 hk ⟨_,w4,x6,rfl⟩
      obtain⟨⟨bs,h1,h2,h3⟩,sm⟩:=w4;walk_at "wp";refine⟨.inl ⟨rfl,_,aQ.of h1⟩,au ⋯,λp hp=>⟨_,by rw[ai (av h1 hp)];exact h1,?_,hk,?_⟩⟩
      ·rw[JM];exact bh ⋯
      ·rw[CQ,<- Kh]
       have e:[V.int (t:Int),V.int (lf:Int),V.int ((t:Int)+1+(bt:Int)),V.int ((lf:Int)+1+(k:Int))]=(wn t lf (t+1+bt) (lf+1+k)).map V.int:=by unfold wn;simp
       rw[e];exact gj.snoc hl h1 h2 h3 sm hp
     ·rintro σ H4 ⟨_,w4,x6,rfl⟩
      refine⟨hbt,?_,_,_,rfl⟩;rw[CY,<- Kh];exact w4.more ⋯
    ·rintro σ H3 ⟨_,w3,x5,x6,rfl⟩
     refine⟨hlf,?_,_,_,_,rfl⟩;rw[Dh,<- Kh];exact w3.more ⋯
   ·rintro σ H2 ⟨_,w2,x4,x5,x6,rfl⟩
    refine⟨ht,?_,_,_,_,_,rfl⟩;rw[CO];exact w2.more ⋯
  ·rintro σ H1 ⟨_,⟨⟨bs,h1,h2,h3⟩,sm⟩,x3,x4,x5,x6,rfl⟩
   walk_at "wp";exact q l bs H1 hl h1 h2 sm
abbrev kJ:Stmt:=gW 11
inductive BD(K:W.Frag)(vs:List V)(H:Hp)(Q:VK)(_E:XK):Prop
 |mk (a tp:Addr) (p:aF) (r c t l b x:Nat) (_:vs=[.ref a,.ref tp]) (_:aQ K H a (ar p)) (_:jv K H tp ((wn t l b x).map V.int)) (_:rect p r c) (_:r<=64) (_:c<=64) (_:t<b) (_:b<=r) (_:l<x) (_:x<=c) (_:gu H (cut p t l b x) Q)
theorem vD:aB ["picture","window","top","left","bottom","right"] ["picture","window"] (ak kJ):=by walk_at "c"
theorem AI{row:KI}{l x:Nat}(h1:l<=x)(h2:x<=row.length):Txt.slice (tx row) (some (l:Int)) (some (x:Int))=tx ((row.drop l).take (x-l)):=by
 rw[i6,HT.sIx_nat,HT.sIx_nat,KC (show l<=row.length by omega),KC h2]
theorem BN{p:aF}{t b:Nat}(h1:t<=b)(h2:b<=p.length):kc (ar p) (some (t:Int)) (some (b:Int))=ar ((p.drop t).take (b-t)):=by
 unfold kc;rw[HT.sIx_nat,HT.sIx_nat,aq,KC (show t<=p.length by omega),KC h2];unfold ar;rw[List.map_take,List.map_drop]
theorem v7{f:Addr}{fd:KO}(F:dw K "cut_out" "cut_out" kJ f fd)(nb:NB mg):aR P w K mg base bB 1 f fd ["picture","window"] (BD K):=by
 have sc:=vD;walk_at "f"
 ·obtain⟨a,tp,p,r,c,t,l,b,x,rfl,_⟩:=h;rfl
 ·obtain⟨a,tp,p,r,c,t,l,b,x,rfl,hS,hT,hp,hr1,hc1,h1,h2,h3,h4,q⟩:=h
  refine⟨_,(af (aH (i:=2) sc.nd rfl (Or.inl rfl) (cR iS (al 1) am (λ_ _=>rfl)))
   (af (aH (i:=3) sc.nd rfl (Or.inr rfl) (cR iS (al 1) am (λ_ _=>rfl)))
   (af (aH (i:=4) sc.nd rfl (Or.inl rfl) (cR iS (al 1) am (λ_ _=>rfl)))
   (af (aH (i:=5) sc.nd rfl (Or.inr rfl) (cR iS (al 1) am (λ_ _=>rfl)))
   (ag (aJ (c5 ["row"] [3,5] rfl (bH.of (by kernel_rfl)) (by kernel_rfl) (bD (dk i9 (al 0) (dr (al 2)) (dr (al 4))))
    (λ_ _ _ _=>(aA (i:=0) (by show(["row","left","right"]:List Str).Nodup;decide +kernel) rfl (Or.inl rfl))) (λ_ _ _ _=>cN) (λ_ _ _ _=>(dk qV (al 0) (dr (al 1)) (dr (al 2))))))))))),?_⟩
  walk_at "wp";refine⟨_,hT,V.int t,ci (j:=0) rfl,_,hT,V.int l,ci (j:=1) rfl,_,hT,V.int b,ci (j:=2) rfl,_,hT,V.int x,ci (j:=3) rfl,_,rfl,_,rfl,_,hS,λsl hsl=>⟨⟨_,aQ.of ae⟩,?_⟩⟩;rw[BN ⋯ (by rw[hp.1];omega)];have hq:∀row∈(p.drop t).take (b-t),row.length=c:=λrow hrow=>hp.2 row (List.mem_of_mem_drop (List.mem_of_mem_take hrow));have hlen:((p.drop t).take (b-t)).length<=64:=by rw[Kk];omega
  generalize hqe:(p.drop t).take (b-t)=q0 at hq hlen ⊢;have sm:aD H (aC H sl (HO.lst (ar q0))):=aj hsl;refine dJ (xs:=ar q0) (λi acc σ H'=>H'=aC H sl (HO.lst (ar q0))/\acc=ar ((q0.take i).map λrow=>(row.drop l).take (x-l))/\i<=q0.length/\∃y,σ=[y,some (V.int l),some (V.int x)]) ⟨rfl,rfl,J9 _,_,rfl⟩ ?_ ?_ ?_ ?_ ?_
  ·rintro i acc σ H' ⟨_,rfl,hi,_⟩
   rw[aq,JM,Kk];exact bh ⋯
  ·rintro i acc σ H' ⟨_,_,h,_⟩
   rw[aq];exact h
  ·rintro i acc σ H' ⟨rfl,_⟩
   exact aQ.of ae
  ·rintro i v acc σ H' hx ⟨rfl,rfl,hi,y,rfl⟩
   have hl:i<q0.length:=by have:=(JK.mp hx).1;rwa [aq]at this
   rw[cy hl]at hx;cases hx;have hrow:=hq _ (JT hl);walk_at "wp";refine⟨by rw[aG];exact au ⋯,?_,hl⟩;rw[AI ⋯ ⋯,List.take_add_one,JJ hl,JX];exact(cD _ _).symm
  ·rintro acc σ H' ⟨rfl,rfl,_⟩ l2 hl2
   rw[aq,Kj];refine q l2 _ (sm.free hl2) ?_ (sm.trans (aj hl2));rw[ae];unfold cut;rw[hqe]
abbrev dC:Stmt:=gW 24
def xz(ss:KQ):Prop:=ss≠[]/\(ss.headD ⟨#[]⟩).length<=64
inductive dy(K:W.Frag)(vs:List V)(H:Hp)(Q:VK)(_E:XK):Prop
 |mk (a:Addr) (ss:KQ) (_:vs=[.ref a]) (_:aQ K H a (ss.map V.str)) (_:xz ss) (_:∀t,H t=none->Q (.ref t) (aC H t (.tup [.int (fV ss),.ref a])))
theorem jH:aB ["picture"] ["picture"] (ak dC):=by walk_at "c"
theorem dv(K:W.Frag):∀l ss H Q E,aQ K H l (ss.map V.str)->xz ss->(∀t,H t=none->Q (.ref t) (aC H t (.tup [.int (fV ss),.ref l])))->dy K [.ref l] H Q E:=λl ss H Q E h1 h2 h3=>⟨l,ss,rfl,h1,h2,h3⟩
theorem jP{f:Addr}{fd:KO}(F:dw K "cells_then_rows" "cells_then_rows" dC f fd)(nb:NB mg):aR P w K mg base bB 1 f fd ["picture"] (dy K):=by
 have sc:=jH;walk_at "f"
 ·obtain⟨a,ss,rfl,_⟩:=h;rfl
 ·obtain⟨a,ss,rfl,hS,hk,q⟩:=h
  refine⟨_,(ag (aJ (bJ (ac (az (bx.m1 cK) (aP cI rfl nb.len b_ (ac (al 0) ad)) (aP bL rfl nb.len b_ (ac (cR cW (al 0) am (λ_ _=>rfl)) ad))) (ac (al 0) ad))))),?_⟩;walk_at "wp";obtain⟨h0,h1⟩:=hk;obtain⟨z,ss,rfl⟩:=List.exists_cons_of_ne_nil h0;have h2:z.length<=64:=h1;have h3:((z.length:Nat):Int)<=64:=by omega
  refine⟨_,hS,_,hS,_,ci (j:=0) rfl,z,rfl,au ⋯,.inr ⟨⋯,⋯⟩,au ⋯,λp hp=>?_⟩;have:=q p hp;unfold fV at this;rw[JM];exact this
abbrev lx:Stmt:=gW 23
inductive nX(K:W.Frag)(vs:List V)(H:Hp)(Q:VK)(_E:XK):Prop
 |mk (a:Addr) (p:aF) (r c:Nat) (_:vs=[.ref a]) (_:aQ K H a (ar p)) (_:rect p r c) (_:0<r) (_:0<c) (_:r<=6) (_:c<=6) (_:bF p) (_:∀(H':Hp) (l:Addr) (zs:List AP),aD H H'->H l=none->H' l=some (.lst (zs.map λz=>V.ref z.1))->(∀z∈zs,H z.1=none/\H' z.1=some (.lst (ar z.2)))->(zs.map (·.1)).Nodup->F3 p r c (zs.map (·.2))->zs.length<=8000->Q (.ref l) H')
theorem bI.dict{H:Hp}{d:Addr}{kvs:List (cC×V)}{o:HO}(hd:H d=some (.dK kvs)):∀{bs:KM} {xs:List Wn},bI H bs xs->bI (aC H d o) bs xs
 | [],[],_=>trivial
 |_::_,_::_,h=>⟨by rw[ai (p_ h.1 hd (by intro e;cases e))];exact h.1,bI.dict hd h.2⟩
 | [],_::_,h=>h.elim
 |_::_,[],h=>h.elim
theorem wU:aB ["picture","found","window","part","t","seen"] ["picture"] (ak lx):=by walk_at "c"
theorem wE{f:Addr}{fd:KO}(F:dw K "seen_in" "seen_in" lx f fd)(nb:NB mg){tkT:Tok}(yak:mg "TURNINGS"=some (.int 8 tkT))(yaS:dL P w K mg base bB 1 "windows_of" ["rows","columns"] jm)(yay:dL P w K mg base bB 1 "cut_out" ["picture","window"] (BD K))(zra:dL P w K mg base bB 3 "turned" ["picture","t"] (i8 K))(yab:dL P w K mg base bB 1 "shown" ["picture"] (dX K))(yaN:dL P w K mg base bB 1 "cells_then_rows" ["picture"] (dy K)):aR P w K mg base bB 4 f fd ["picture"] (nX K):=by
 have sc:=wU;have dv:=dv K;walk_at "f"
 ·obtain⟨a,p,r,c,rfl,_⟩:=h;rfl
 ·obtain⟨a,p,r,c,rfl,hS,hp,hr0,hc0,hr1,hc1,hns,q⟩:=h
  have hu:=hr.units;refine⟨_,(af (aH (i:=1) sc.nd rfl (Or.inl rfl) oz)
   (af (bj PassesOwn.never rfl (bD (aE yaS (hr.mono nofun) rfl aM (ac (aP cI rfl nb.len b_ (ac (al 0) ad)) (ac (aP bL rfl nb.len b_ (ac (cR cW (al 0) am (λ_ _=>rfl)) ad)) ad)))) (aA (i:=2) sc.nd rfl (Or.inl rfl))
   (af (aH (i:=3) sc.nd rfl (Or.inl rfl) (aE yay (hr.mono nofun) rfl aM (ac (al 0) (ac (al 2) ad))))
   (ag (bj PassesOwn.never rfl (cB rfl nb.range (ac (cY (v:=.int 8) rfl yak ⟨_,rfl⟩) ad)) (aA (i:=4) sc.nd rfl (Or.inl rfl))
   (af (aH (i:=5) sc.nd rfl (Or.inl rfl) (aE zra (hr.mono nofun) rfl aM (ac (al 3) (ac (al 4) ad))))
   (ag (m7 (Kq (Kv (by decide:1<=64) _) hu) (al 1) (aE yab (hr.mono nofun) rfl aM (ac (al 5) ad)) (al 5) rfl)))))))
   (ag (aJ (yM (hr.mono nofun) rfl rfl nb.sorted yaN rfl dv (ac (An (al 1) rfl rfl) ad)))))),?_⟩
  walk_at "wp";intro d hd;have sm0:aD H (aC H d (HO.dK [])):=aj hd;obtain⟨hl0,hrow⟩:=nu hp hr0;refine⟨_,sm0.seq hS,_,sm0.seq hS,_,ci (j:=0) (cy hl0),_,rfl,by rw[aG,hrow];exact au ⋯,?_⟩;rw[aq,hp.1,aG,hrow];refine⟨r,c,rfl,⋯,⋯,λwl bs H1 hwl hwl2 htb sm1=>?_⟩;have hwc:=Cr hr0 hr1 hc0 hc1;have hlen:(jG r c).length<=1000:=by unfold check at hwc;simp only[Bool.and_eq_true,decide_eq_true_eq]at hwc;exact hwc.2
  have hbl:=htb.length;have sm01:=sm0.trans sm1;refine⟨_,rfl,⟨_,aQ.of hwl2⟩,?_⟩
  -- the windows
  refine bZ (xs:=bs.map V.ref) (λi σ H2=>i<=bs.length/\(∃zs,fc H H2 d (λx=>∃j,j<i/\∃u,u<8/\x=turned (Ce p ((jG r c).getD j [])) u) zs (8*i))/\H2 wl=some (.lst (bs.map V.ref))/\bI H2 bs (jG r c)/\∃x2 x3 x4 x5,σ=[some (V.ref a),some (V.ref d),x2,x3,x4,x5]) ?_ ?_ ?_ ?_
  ·refine⟨J9 _,⟨[],?_⟩,hwl2,htb,_,_,_,_,rfl⟩
   exact⟨by rw[sm1 _ _ ae];rfl,sm01,hd,(λz hz=>nomatch hz),List.nodup_nil,List.nodup_nil,λx=>by simp,J9 _⟩
  ·rintro i σ H2 _ ⟨_,_,h,_⟩
   exact aQ.of h
  ·rintro i x σ H2 hx ⟨_,⟨zs,S⟩,hw2,ht2,x2,x3,x4,x5,rfl⟩
   rw[JO]at hx;cases hbi:bs[i]? with
   |none=>rw[hbi]at hx;cases hx
   |some bt=>
    rw[hbi]at hx;cases hx
    have hi:i<bs.length:=(JK.mp hbi).1;obtain⟨w0,hw0,hbt⟩:=ht2.get hbi;obtain⟨t,l,b,x,rfl,h1,h2,h3,h4⟩:=oP.mp (JP hw0);walk_at "wp";refine⟨a,bt,p,r,c,t,l,b,x,rfl,S.sm.seq hS,jv.of hbt,hp,⋯,⋯,h1,h2,h3,h4,λpl H3 hpl hpl2 sm3=>⟨⋯,?_⟩⟩;have hcut:=cn hp h1 h2 h3 h4;have S3:=S.same sm3;have hw3:=sm3 _ _ hw2;have ht3:=ht2.same sm3;have hpl0:=S.sm.free hpl;clear S hpl hw2 ht2 hbt;have eW:(jG r c).getD i []=wn t l b x:=by rw[List.getD_eq_getElem?_getD,hw0];rfl
    have e8:Int.toNat 8=8:=rfl;rw[e8];refine b7 (lo:=0) (n:=8) (λu σ H4=>(∃zs,fc H H4 d (λy=>(∃j,j<i/\∃u,u<8/\y=turned (Ce p ((jG r c).getD j [])) u)\/∃u',u'<u/\y=turned (cut p t l b x) u') zs (8*i+u))/\H4 pl=some (.lst (ar (cut p t l b x)))/\H4 wl=some (.lst (bs.map V.ref))/\bI H4 bs (jG r c)/\∃x4 x5,σ=[some (V.ref a),some (V.ref d),some (V.ref bt),some (V.ref pl),x4,x5]) ?_ ?_ ?_
    ·exact⟨⟨zs,S3.congr λy=>⟨.inl,λz=>z.elim id λ⟨u',hu',_⟩=>absurd hu' (Nat.not_lt_zero _)⟩⟩,hpl2,hw3,ht3,_,_,rfl⟩
    ·rintro u σ H4 hu8 ⟨⟨zs4,S4⟩,hp4,hw4,ht4,x4,x5,rfl⟩
     walk_at "wp";refine⟨pl,cut p t l b x,b-t,x-l,u,by simp,aQ.of hp4,hcut,⋯,⋯,⋯,⋯,hu8,λbq H5 hbq hbq2 sm5=>?_⟩;obtain⟨o1,o2,r',c',o3,o4,o5,o6,o7⟩:=xE (u:=u) hp hns h1 h2 h3 h4;have hsm:dH (turned (cut p t l b x) u):=dH.of o3 ⋯ ⋯;have hhd:((turned (cut p t l b x) u).headD []).length<=64:=by rw[aU o3 o4];omega
     obtain⟨e1,S5⟩:=S4.step sm5 hbq hbq2 o1 o2 hhd;refine⟨bq,turned (cut p t l b x) u,rfl,hbq2,hsm,aC H5 d (.dK ((k_ zs4 (bq,turned (cut p t l b x) u)).map jk)),.inl ⟨zs4.map jk,_,sm5 _ _ S4.tbl,rfl,by rw[JM];exact bh (by have:=S4.len;omega),by rw[e1]⟩,⟨_,S5.congr λy=>?_⟩,?_,?_,(ht4.same sm5).dict (sm5 _ _ S4.tbl)⟩
     ·constructor
      ·rintro((z | ⟨u',z1,z2⟩) | z)
       ·exact .inl z
       ·exact .inr ⟨u',⋯,z2⟩
       ·exact .inr ⟨u,⋯,z⟩
      ·rintro(z | ⟨u',z1,z2⟩)
       ·exact .inl (.inl z)
       ·by_cases hq:u'=u
        ·exact .inr (by rw[z2,hq])
        ·exact .inl (.inr ⟨u',⋯,z2⟩)
     ·rw[ai (p_ hp4 S4.tbl (by intro e;cases e))];exact sm5 _ _ hp4
     ·rw[ai (p_ hw4 S4.tbl (by intro e;cases e))];exact sm5 _ _ hw4
    ·rintro σ H4 ⟨⟨zs4,S4⟩,hp4,hw4,ht4,x4,x5,rfl⟩
     refine⟨hi,⟨zs4,S4.congr λy=>?_⟩,hw4,ht4,_,_,_,_,rfl⟩
     constructor
     ·rintro(⟨j,z1,z2⟩ | ⟨u',z1,z2⟩)
      ·exact⟨j,⋯,z2⟩
      ·exact⟨i,⋯,u',z1,by rw[eW,m6];exact z2⟩
     ·rintro⟨j,z1,u',z2,z3⟩
      by_cases hq:j=i
      ·rw[hq,eW,m6]at z3
       exact .inr ⟨u',z2,z3⟩
      ·exact .inl ⟨j,⋯,u',z2,z3⟩
  ·rintro σ H2 ⟨_,⟨zs,S⟩,hw2,ht2,x2,x3,x4,x5,rfl⟩
   walk_at "wp";refine⟨_,S.tbl,λv hv=>⟨d,ae,zs.map EH,?_,?_,?_⟩⟩
   ·rw[ai (av S.tbl hv),S.tbl,JZ];rfl
   ·intro e he
    obtain⟨z,hz,rfl⟩:=Kt.mp he;obtain⟨z1,z2,z3,z4,z5⟩:=S.each z hz;refine⟨?_,?_,?_⟩
    ·refine aQ.of ?_
     show aC H2 v (tZ v d) z.1=some (.lst ((z.2.map tx).map V.str));rw[ai (av z2 hv),z2,dM]
    ·show z.2.map tx≠[]
     exact λe=>z3 (List.map_eq_nil_iff.mp e)
    ·show((z.2.map tx).headD ⟨#[]⟩).length<=64
     rw[xM];exact z5
   ·intro es pe se H' l' sm' hl' hl2'
    obtain⟨ws,pw,rfl⟩:=uG pe _ rfl;have smv:aD H2 (aC H2 v (tZ v d)):=aj hv;refine q H' l' ws (S.sm.trans (smv.trans sm')) (S.sm.free (smv.free hl')) ?_ ?_ ?_ ?_ (by have h1:=S.len;have h2:=pw.length_eq;rw[JM]at h1;omega)
    ·rw[hl2',JZ];rfl
    ·intro z hz
     obtain⟨z1,z2,_⟩:=S.each z (pw.mem_iff.mp hz);exact⟨z1,sm' _ _ (smv _ _ z2)⟩
    ·exact(pw.map _).nodup_iff.mpr S.nda
    ·refine⟨λy=>?_,zh se ((pw.map _).nodup_iff.mpr S.ndp)⟩
     rw[(pw.map _).mem_iff,S.mem,zf,JM,hbl]
abbrev Ky:=List Nat×List Nat
def ER(k:Ky):List V:=[.str (tx k.1),.str (tx k.2)]
def jA(k:Ky):List cC:=[.inr (tx k.1),.inr (tx k.2)]
theorem d8{a b:KI}(h:tx a=tx b):a=b:=by
 have e:(tx a).cps.toList=(tx b).cps.toList:=by rw[h]
 rwa [dD,dD]at e
theorem uO{a b:Ky}(h:jA a=jA b):a=b:=by
 obtain⟨a1,a2⟩:=a;obtain⟨b1,b2⟩:=b;unfold jA at h;simp only[List.cons.injEq,Sum.inr.injEq,and_true]at h;rw[d8 h.1,d8 h.2]
def aT(H:Hp)(a:Addr)(k:Ky):Prop:=H a=some (.tup (ER k))
theorem aT.up{H H':Hp}{a:Addr}{k:Ky}(h:aT H a k)(s:aD H H'):aT H' a k:=s _ _ h
theorem aT.put{H:Hp}{a l:Addr}{k:Ky}{xs:List V}{o:HO}(h:aT H a k)(hl:H l=some (.lst xs)):aT (aC H l o) a k:=by
 have h':H a=some (.tup (ER k)):=h;show aC H l o a=_;rw[ai (λz=>by rw[z,hl]at h';cases h')];exact h'
abbrev aZ(p:aF):List Nat:=SpM.glue 47 p
theorem xx{β:Type}{A:Hp->Addr->β->Prop}(u:∀{H H':Hp} {b:Addr} {y:β},A H b y->aD H H'->A H' b y){H H':Hp}{l:Addr}{ys:List β}(h:jK A H l ys)(s:aD H H'):jK A H' l ys:=by
 obtain⟨bs,h1,h2⟩:=h;exact⟨bs,s _ _ h1,h2.mono λb y _ _ q=>u q s⟩
abbrev ke:Hp->Addr->List Ky->Prop:=jK aT
theorem sU{H H':Hp}{b:Addr}{y:List Ky}(h:ke H b y)(s:aD H H'):ke H' b y:=xx (A:=aT) aT.up h s
def bv(sb:Bool)(p:aF)(m:Nat):List Ky:=(List.range (m-1)).map λj=>(aZ (pQ sb p (j+1)),aZ (kR sb p (j+1)))
def d_(CC:Addr)(H:Hp)(c:Addr)(p:aF):Prop:=∃dx lp lb la,H c=some (.ins CC dx [("picture",.ref lp),("text",.str (tx (aZ p))),("beside_texts",.ref lb),("above_texts",.ref la)])/\H lp=some (.lst (ar p))/\jK aT H lb (bv true p (p.headD []).length)/\jK aT H la (bv false p p.length)
theorem d_.up{CC:Addr}{H H':Hp}{c:Addr}{p:aF}(h:d_ CC H c p)(s:aD H H'):d_ CC H' c p:=by
 obtain⟨dx,lp,lb,la,h1,h2,h3,h4⟩:=h;exact⟨dx,lp,lb,la,s _ _ h1,s _ _ h2,xx (A:=aT) aT.up h3 s,xx (A:=aT) aT.up h4 s⟩
def a_(r:Nat×RV)(p:aF):List (List Ky):=match r.1 with
 |0=>if aZ p=r.2.sg then[[]] else[]
 |1=>(bv true p (p.headD []).length).map λk=>[(k.1,r.2.o1),(k.2,r.2.o2)]
 |2=>(bv false p p.length).map λk=>[(k.1,r.2.o1),(k.2,r.2.o2)]
 |_=>[[(aZ (turned p (dA r.2.t.toNat)),r.2.o1)]]
def bP(T:Ky->Option Int):Int->List Ky->Option Int
 |c,[]=>some c
 |c,k::ks=>match T k with
  |none=>none
  |some v=>bP T (c+v) ks
def iL(H:Hp)(d:Addr)(T:Ky->Option Int):Prop:=∃kvs,H d=some (.dT kvs)/\∀k,cQ kvs (jA k)=(T k).map V.int
theorem iL.up{H H':Hp}{d:Addr}{T:Ky->Option Int}(h:iL H d T)(s:aD H H'):iL H' d T:=let ⟨kvs,h1,h2⟩:=h;⟨kvs,s _ _ h1,h2⟩
theorem iL.get{H:Hp}{d b:Addr}{T:Ky->Option Int}{k:Ky}(h:iL H d T)(hb:aT H b k):kD H d (.ref b) ((T k).map V.int):=by
 obtain⟨kvs,h1,h2⟩:=h;rw[<- h2 k];exact kD.t h1 hb
structure iE(p:aF)(r c:Nat):Prop where
 rc:rect p r c
 r0:0<r
 r6:r<=6
 c0:0<c
 c6:c<=6
theorem iE.small{p:aF}{r c:Nat}(h:iE p r c):dH p:=dH.of h.rc (by have:=h.r6;omega) (by have:=h.c6;omega)
theorem sf{H:Hp}{a l C dx:Addr}{ks:List Ky}{fs:List (Str×V)}{o:HO}(h:jK aT H l ks)(ha:H a=some (.ins C dx fs)):jK aT (aC H a o) l ks:=by
 obtain⟨bs,h1,h2⟩:=h;exact⟨bs,by rw[ai (λz=>by rw[z,ha]at h1;cases h1)];exact h1,h2.mono λb y _ _ q=>by
  have q':H b=some (.tup (ER y)):=q;show aC H a o b=_;rw[ai (λz=>by rw[z,ha]at q';cases q')];exact q'⟩
theorem mW{c:Prop}[Decidable c]{A B:Prop}(hA:c->A)(hB:¬ c->B):if c then A else B:=by
 by_cases h:c
 ·rw[if_pos h];exact hA h
 ·rw[if_neg h];exact hB h
abbrev fq:Stmt:=gW 27
inductive hU(K:W.Frag)(vs:List V)(H:Hp)(Q:VK)(_E:XK):Prop
 |mk (sb:Bool) (a:Addr) (p:aF) (r c m:Nat) (_:vs=[.ref a,.bl sb,.int (m:Int)]) (_:aQ K H a (ar p)) (_:iE p r c) (_:m=(if sb=true then c else r)) (_:∀l H',H l=none->jK aT H' l (bv sb p m)->aD H H'->Q (.ref l) H')
theorem mq:aB ["picture","side_by_side","many","texts","at","two"] ["picture","side_by_side","many"] (ak fq):=by walk_at "c"
theorem rY{sb:Bool}{p:aF}{r c n:Nat}(h:iE p r c):dH (pQ sb p n)/\dH (kR sb p n):=by
 have:=h.small;cases sb with
 |true=>
  refine⟨⟨?_,λx hx=>?_⟩,⟨?_,λx hx=>?_⟩⟩
  ·show(p.map _).length<=_;rw[JM];exact this.1
  ·obtain⟨y,hy,rfl⟩:=Kt.mp hx
   rw[Kk];exact Kd (Nat.min_le_right _ _) (this.2 y hy)
  ·show(p.map _).length<=_;rw[JM];exact this.1
  ·obtain⟨y,hy,rfl⟩:=Kt.mp hx
   rw[Kl];exact Kd (Nat.sub_le _ _) (this.2 y hy)
 |false=>
  refine⟨⟨?_,λx hx=>?_⟩,⟨?_,λx hx=>?_⟩⟩
  ·show(p.take n).length<=_;rw[Kk];exact Kd (Nat.min_le_right _ _) this.1
  ·exact this.2 x (List.mem_of_mem_take hx)
  ·show(p.drop n).length<=_;rw[Kl];exact Kd (Nat.sub_le _ _) this.1
  ·exact this.2 x (List.mem_of_mem_drop hx)
theorem mw{f:Addr}{fd:KO}(F:dw K "parted_texts" "parted_texts" fq f fd)(nb:NB mg)(yaU:dL P w K mg base bB 1 "parted" ["picture","side_by_side","at"] (qr K))(yab:dL P w K mg base bB 1 "shown" ["picture"] (dX K)):aR P w K mg base bB 2 f fd ["picture","side_by_side","many"] (hU K):=by
 have sc:=mq;walk_at "f"
 ·obtain⟨sb,a,p,r,c,m,rfl,_⟩:=h;rfl
 ·obtain⟨sb,a,p,r,c,m,rfl,hS,hp,hm,q⟩:=h
  have:=hp.r6;have:=hp.c6;have:=hp.r0;have:=hp.c0;have m1:1<=m/\m<=6:=by rw[hm];split<;>omega
  refine⟨_,(af (aH (i:=3) sc.nd rfl (Or.inl rfl) (bE ad))
   (af (bj PassesOwn.never rfl (iW rfl nb.range (bA (ac (al 2) ad))) (aA (i:=4) sc.nd rfl (Or.inl rfl))
   (af (aH (i:=5) sc.nd rfl (Or.inl rfl) (aE yaU (hr.mono nofun) rfl aM (ac (al 0) (ac (al 1) (ac (al 4) ad)))))
   (ag (bw (eC PySem.F.plainAttrs_list PySem.F.slot_list_append PySem.F.type_list_append bX (al 3) (ac (bJ (ac (aE yab (hr.mono nofun) rfl aM (ac (cR iS (al 5) am (λ_ _=>rfl)) ad)) (ac (aE yab (hr.mono nofun) rfl aM (ac (cR iS (al 5) am (λ_ _=>rfl)) ad)) ad))) ad))))))
   (ag (aJ (al 3))))),?_⟩
  walk_at "n";refine⟨J9 _,λl hl=>h1 _ _ ?_⟩;clear h1;generalize z0:aC H l _=H1;obtain⟨s1,e1⟩:=iH hl z0;walk_at "n";rw[show((m:Int)-1).toNat=m-1 by omega];refine⟨nofun,⋯,⋯,?_⟩;refine b7 (lo:=1) (n:=m-1) (λi σ H'=>aD H H'/\i<=m-1/\(∃bs:List Addr,H' l=some (.lst (bs.map V.ref))/\aK aT H' bs ((List.range i).map λj=>(aZ (pQ sb p (j+1)),aZ (kR sb p (j+1)))))/\∃x y,σ=[some (V.ref a),some (V.bl sb),some (V.int (m:Int)),some (V.ref l),x,y]) ⟨s1,J9 _,⟨[],e1,aK.nil⟩,_,_,rfl⟩ ?_ ?_
  ·rintro i σ H' hi ⟨sm,_,⟨bs,hb,hA⟩,x,y,rfl⟩
   walk_at "n";refine⟨sb,a,p,r,c,i+1,by push_cast;rw[Int.add_comm],sm.seq hS,hp.rc,⋯,⋯,by rw[<- hm];omega,λt l1 l2 H2 ht hl1 hl2 hne et e1' e2' s2=>h1 _ _ ?_⟩;clear h1;obtain⟨sm1,sm2⟩:=rY (sb:=sb) (n:=i+1) hp;walk_at "wp";have hb2:=s2 _ _ hb;refine⟨.inl ⟨rfl,_,aQ.of hb2⟩,_,jv.of et,_,rfl,l1,pQ sb p (i+1),rfl,e1',sm1,_,jv.of et,_,rfl,l2,kR sb p (i+1),rfl,e2',sm2,au nofun,λtp htp=>?_⟩;generalize z0:aC H2 tp _=H3;obtain⟨s3,(e3:aT H3 tp (aZ (pQ sb p (i+1)),aZ (kR sb p (i+1))))⟩:=iH htp z0;have hb3:=s3 _ _ hb2;have hbl:=hA.1;rw[JM,List.length_range]at hbl;refine⟨_,hb3,by rw[JM];exact bh ⋯,bQ ((sm.trans s2).trans s3) hl,⋯,bs++[tp],by rw[ae,JX];rfl,?_⟩;rw[List.range_succ,JX];exact(hA.mono λb y _ _ h=>((h.up s2).up s3).put hb3).snoc (e3.put hb3)
  ·rintro σ H' ⟨sm,_,⟨bs,hb,hA⟩,x,y,rfl⟩
   refine h1 _ _ ?_;walk_at "wp";exact q l H' hl ⟨bs,hb,hA⟩ sm
abbrev fH:Stmt:=ib 26 0
def DS(K:W.Frag)(C:Addr):Prop:=ax K C "picture"/\ax K C "text"/\ax K C "beside_texts"/\ax K C "above_texts"
inductive gD(K:W.Frag)(vs:List V)(H:Hp)(Q:VK)(_E:XK):Prop
 |mk (a C dx b:Addr) (p:aF) (r c:Nat) (_:vs=[.ref a,.ref b]) (_:H a=some (.ins C dx [])) (_:iQ K C) (_:DS K C) (_:H b=some (.lst (ar p))) (_:iE p r c) (_:∀H',d_ C H' a p->aN a H H'->Q .non H')
theorem tF:aB ["self","picture"] ["self","picture"] (ak fH):=by walk_at "c"
theorem rh{f:Addr}{fd:KO}(F:dw K "__init__" "Cuts.__init__" fH f fd)(nb:NB mg)(yab:dL P w K mg base bB 1 "shown" ["picture"] (dX K))(yan:dL P w K mg base bB 2 "parted_texts" ["picture","side_by_side","many"] (hU K)):aR P w K mg base bB 3 f fd ["self","picture"] (gD K):=by
 have sc:=tF;walk_at "f"
 ·obtain⟨a,C,dx,b,p,r,c,rfl,_⟩:=h;rfl
 ·obtain⟨a,C,dx,b,p,r,c,rfl,ha,cl,⟨n1,n2,n3,n4⟩,hS,hp,q⟩:=h
  refine⟨_,(af (cL (al 0) (c8 cg rfl nb.list eV (ac (al 1) ad)) rfl)
   (af (cL (al 0) (aE yab (hr.mono nofun) rfl aM (ac (al 1) ad)) rfl)
   (af (cL (al 0) (aE yan (hr.mono nofun) rfl aM (ac (al 1) (ac md (ac (aP bL rfl nb.len b_ (ac (cR cW (al 1) am (λ_ _=>rfl)) ad)) ad)))) rfl)
   (ag (cL (al 0) (aE yan (hr.mono nofun) rfl aM (ac (al 1) (ac md (ac (aP cI rfl nb.len b_ (ac (al 1) ad)) ad)))) rfl))))),?_⟩
  walk_at "n";refine⟨_,.inl (aQ.of hS),λl hl=>⟨C,dx,_,aj hl _ _ ha,cl,n1,nofun,h1 _ _ ?_⟩⟩;clear h1;have hla:l≠a:=λe=>by rw[e,ha]at hl;cases hl
  have hba:b≠a:=λe=>by rw[e,ha]at hS;cases hS
  have x1:aN a H (aC (aC H l (.lst (ar p))) a (.ins C dx [("picture",.ref l)])):=(aN.of (aj hl)).put;have e1:aC (aC H l (.lst (ar p))) a (.ins C dx [("picture",.ref l)]) a=some (.ins C dx [("picture",.ref l)]):=ae;have l1:aC (aC H l (.lst (ar p))) a (.ins C dx [("picture",.ref l)]) l=some (.lst (ar p)):=by rw[ai hla,ae]
  change yL _ _ _ _ (aC (aC H l (.lst (ar p))) a (.ins C dx [("picture",.ref l)]));generalize aC (aC H l (.lst (ar p))) a (.ins C dx [("picture",.ref l)])=H1 at x1 e1 l1 ⊢;have b1:=x1 _ _ hba hS;have d1:¬ (("picture":Str)="text"):=by decide +kernel
  have d2:¬ (("picture":Str)="beside_texts"):=by decide +kernel
  have d3:¬ (("picture":Str)="above_texts"):=by decide +kernel
  have d4:¬ (("text":Str)="beside_texts"):=by decide +kernel
  have d5:¬ (("text":Str)="above_texts"):=by decide +kernel
  have d6:¬ (("beside_texts":Str)="above_texts"):=by decide +kernel
  have ef2:cq "text" (V.str (tx (aZ p))) [(("picture":Str),V.ref l)]=[(("picture":Str),V.ref l),(("text":Str),V.str (tx (aZ p)))]:=by simp only[cq,if_neg d1]
  walk_at "n";refine⟨b,p,rfl,b1,hp.small,C,dx,_,e1,cl,n2,by simp,?_⟩;rw[ef2];refine h1 _ _ ?_;clear h1;have x2:aN a H (aC H1 a (.ins C dx [("picture",.ref l),("text",.str (tx (aZ p)))])):=x1.put;have e2:aC H1 a (.ins C dx [("picture",.ref l),("text",.str (tx (aZ p)))]) a=some (.ins C dx [("picture",.ref l),("text",.str (tx (aZ p)))]):=ae;have l2:aC H1 a (.ins C dx [("picture",.ref l),("text",.str (tx (aZ p)))]) l=some (.lst (ar p)):=by rw[ai hla];exact l1
  generalize aC H1 a (.ins C dx [("picture",.ref l),("text",.str (tx (aZ p)))])=H2 at x2 e2 l2 ⊢;have b2:=x2 _ _ hba hS;have:=hp.r6;have:=hp.c6;obtain⟨hl0,hrow⟩:=nu hp.rc hp.r0;walk_at "n";refine⟨_,aQ.of b2,_,(show vq _ ((0:Nat):Int)=_ from ci (cy hl0)),_,rfl,by rw[aG];exact au ⋯,?_⟩;rw[aG,hrow];refine⟨true,b,p,r,c,c,rfl,aQ.of b2,hp,rfl,λlb H3 hlb eb s3=>⟨C,dx,_,s3 _ _ e2,cl,n3,by simp,?_⟩⟩;have hbl:lb≠a:=λe=>by rw[e,e2]at hlb;cases hlb
  have ef3:cq "beside_texts" (V.ref lb) [(("picture":Str),V.ref l),(("text":Str),V.str (tx (aZ p)))]=[(("picture":Str),V.ref l),(("text":Str),V.str (tx (aZ p))),(("beside_texts":Str),V.ref lb)]:=by simp only[cq,if_neg d2,if_neg d4]
  rw[ef3];refine h1 _ _ ?_;clear h1;have x3:aN a H (aC H3 a (.ins C dx [("picture",.ref l),("text",.str (tx (aZ p))),("beside_texts",.ref lb)])):=(x2.then s3).put;have e3:aC H3 a (.ins C dx [("picture",.ref l),("text",.str (tx (aZ p))),("beside_texts",.ref lb)]) a=some (.ins C dx [("picture",.ref l),("text",.str (tx (aZ p))),("beside_texts",.ref lb)]):=ae;have l3:aC H3 a (.ins C dx [("picture",.ref l),("text",.str (tx (aZ p))),("beside_texts",.ref lb)]) l=some (.lst (ar p)):=by rw[ai hla];exact s3 _ _ l2
  have eb3:jK aT (aC H3 a (.ins C dx [("picture",.ref l),("text",.str (tx (aZ p))),("beside_texts",.ref lb)])) lb (bv true p c):=sf eb (s3 _ _ e2);generalize aC H3 a (.ins C dx [("picture",.ref l),("text",.str (tx (aZ p))),("beside_texts",.ref lb)])=H4 at x3 e3 l3 eb3 ⊢;have b3:=x3 _ _ hba hS;walk_at "wp";refine⟨_,aQ.of b3,?_⟩;rw[aq,hp.rc.1];refine⟨false,b,p,r,c,r,rfl,aQ.of b3,hp,rfl,λla H5 hla5 ea s5=>⟨C,dx,_,s5 _ _ e3,cl,n4,by simp,?_⟩⟩;have ef4:cq "above_texts" (V.ref la) [(("picture":Str),V.ref l),(("text":Str),V.str (tx (aZ p))),(("beside_texts":Str),V.ref lb)]=[(("picture":Str),V.ref l),(("text":Str),V.str (tx (aZ p))),(("beside_texts":Str),V.ref lb),(("above_texts":Str),V.ref la)]:=by simp only[cq,if_neg d3,if_neg d5,if_neg d6]
  rw[ef4];refine q _ ⟨dx,l,lb,la,ae,by rw[ai hla];exact s5 _ _ l3,?_,?_⟩ ((x3.then s5).put)
  ·rw[aU hp.rc hp.r0]
   exact sf (xx (A:=aT) aT.up eb3 s5) (s5 _ _ e3)
  ·rw[hp.rc.1]
   exact sf ea (s5 _ _ e3)
abbrev dR:Stmt:=ib 26 1
inductive fe(CC:Addr)(vs:List V)(H:Hp)(Q:VK)(_E:XK):Prop
 |mk (a:Addr) (p:aF) (r c t:Nat) (_:vs=[.ref a,.int (t:Int)]) (_:d_ CC H a p) (_:iE p r c) (_:t<8) (_:∀H',aD H H'->Q (.str (tx (aZ (turned p t)))) H')
theorem nJ:aB ["self","t"] ["self","t"] (ak dR):=by walk_at "c"
theorem iE.turned{p:aF}{r c:Nat}(h:iE p r c)(t:Nat):∃r' c',iE (turned p t) r' c':=by
 have:=cV h.rc h.r0 h.c0 t;have h1:=h.r0;have h2:=h.c0;have h3:=h.r6;have h4:=h.c6;exact⟨_,_,this,by split<;>omega,by split<;>omega,by split<;>omega,by split<;>omega⟩
theorem n9{f CC:Addr}{fd:KO}(F:dw K "turned_text" "Cuts.turned_text" dR f fd)(nb:NB mg)(cl:iQ K CC)(na:DS K CC)(zra:dL P w K mg base bB 3 "turned" ["picture","t"] (i8 K))(yab:dL P w K mg base bB 1 "shown" ["picture"] (dX K)):aR P w K mg base bB 4 f fd ["self","t"] (fe CC):=by
 have sc:=nJ;walk_at "f"
 ·obtain⟨a,p,r,c,t,rfl,_⟩:=h;rfl
 ·obtain⟨a,p,r,c,t,rfl,⟨dx,lp,lb,la,ha,hp,_,_⟩,h6,ht,q⟩:=h
  refine⟨_,(ag (aJ (aE yab (hr.mono nofun) rfl aM (ac (aE zra (hr.mono nofun) rfl aM (ac (bK (al 0) rfl) (ac (al 1) ad))) ad)))),?_⟩;have:=h6.r6;have:=h6.c6;obtain⟨r',c',h6'⟩:=h6.turned t;walk_at "wp";refine⟨CC,dx,_,ha,cl,na.1,_,rfl,lp,p,r,c,t,rfl,aQ.of hp,h6.rc,h6.r0,h6.c0,⋯,⋯,ht,λl H1 hl el s1=>⟨l,turned p t,rfl,el,h6'.small,q H1 s1⟩⟩
def ou(H0 H:Hp)(b:Addr)(y:List Ky):Prop:=H0 b=none/\ke H b y
theorem ou.up{H0 H H':Hp}{b:Addr}{y:List Ky}(h:ou H0 H b y)(s:aD H H'):ou H0 H' b y:=⟨h.1,sU h.2 s⟩
inductive dm(CC C:Addr)(t:Nat)(vs:List V)(H:Hp)(Q:VK)(_E:XK):Prop
 |mk (a dx lp cu:Addr) (v:RV) (p:aF) (r c:Nat) (_:vs=[.ref a,.ref cu]) (_:H a=some (.ins C dx (rR t lp v))) (_:d_ CC H cu p) (_:iE p r c) (_:0<=v.t) (_:v.t<=7) (_:∀l H',H l=none->jK (ou H) H' l (a_ (t,v) p)->aD H H'->Q (.ref l) H')
abbrev fN:Stmt:=ib 37 4
theorem tI:aB ["self","cuts"] ["self","cuts"] (ak fN):=by walk_at "c"
theorem tD{f CC C:Addr}{fd:KO}(F:dw K "ways" "CellRule.ways" fN f fd)(cc:iQ K CC)(nc:DS K CC)(cl:iQ K C)(na:ax K C "sign"):aR P w K mg base bB 1 f fd ["self","cuts"] (dm CC C 0):=by
 have sc:=tI;walk_at "f"
 ·obtain⟨a,dx,lp,cu,v,p,r,c,rfl,_⟩:=h;rfl
 ·obtain⟨a,dx,lp,cu,v,p,r,c,rfl,ha,⟨dc,l1,l2,l3,hc,_,_,_⟩,hp,t0,t7,q⟩:=h
  refine⟨_,(ag (aJ (BE (br jZ (bK (al 1) rfl) (bK (al 0) rfl) (bO _)) (bE (ac (bE ad) ad)) (bE ad)))),?_⟩;walk_at "wp";refine⟨CC,dc,_,hc,cc,nc.2.1,_,rfl,C,dx,_,ha,cl,na,_,rfl,rfl,?_⟩;refine mW (λe=>?_) (λe=>?_)
  ·rw[show a_ (0,v) p=[[]] from if_pos (d8 (V.str.inj e))]at q
   exact⟨J9 _,λl0 h0=>⟨au nofun,λl1 h1=>q l1 _ ((aj h0).free h1) ⟨[l0],ae,aK.one ⟨h0,[],aj h1 _ _ ae,aK.nil⟩⟩ ((aj h0).trans (aj h1))⟩⟩
  ·rw[show a_ (0,v) p=[] from if_neg λh=>e (by rw[h])]at q
   exact⟨J9 _,λl1 h1=>q l1 _ h1 ⟨[],ae,aK.nil⟩ (aj h1)⟩
abbrev dQ:Stmt:=ib 38 4
theorem nv:aB ["self","cuts"] ["self","cuts"] (ak dQ):=by walk_at "c"
theorem oM{f CC C:Addr}{fd:KO}(F:dw K "ways" "BesideRule.ways" dQ f fd)(cc:iQ K CC)(nc:DS K CC)(cl:iQ K C)(na:ax K C "one"/\ax K C "other"):aR P w K mg base bB 1 f fd ["self","cuts"] (dm CC C 1):=by
 have sc:=nv;walk_at "f"
 ·obtain⟨a,dx,lp,cu,v,p,r,c,rfl,_⟩:=h;rfl
 ·obtain⟨a,dx,lp,cu,v,p,r,c,rfl,ha,⟨dc,l1,l2,l3,hc,_,⟨bs,hb,hA⟩,_⟩,hp,t0,t7,q⟩:=h
  have hu:=hr.units;refine⟨_,(ag (aJ (c5 ["first","second"] [0] rfl (bH.of (by kernel_rfl)) (by kernel_rfl) (bD (bK (al 1) rfl))
    (λ_ _ _ _=>(mR (K:=K) (n:=2) rfl rfl (aS (aA (i:=0) (by show(["first","second","self"]:List Str).Nodup;decide +kernel) rfl (Or.inl rfl)) (aS (aA (i:=1) (by show(["first","second","self"]:List Str).Nodup;decide +kernel) rfl (Or.inl rfl)) dU)))) (λ_ _ _ _=>cN) (λ_ _ _ _=>(bE (ac (bJ (ac (al 0) (ac (mM (K:=K) rfl (al 2) rfl) ad))) (ac (bJ (ac (al 1) (ac (mM (K:=K) rfl (al 2) rfl) ad))) ad))))))),?_⟩
  walk_at "wp";refine⟨CC,dc,_,hc,cc,nc.2.2.1,_,rfl,_,rfl,⟨_,aQ.of hb⟩,?_⟩;have hlen:(bs.zip (bv true p (p.headD []).length)).length=(a_ (1,v) p).length:=by
   show _=((bv true p (p.headD []).length).map _).length;rw[List.length_zip,hA.1,JM,Nat.min_self]
  have hpl:(bv true p (p.headD []).length).length<=6:=by
   unfold bv;rw[JM,List.length_range,aU hp.rc hp.r0];have:=hp.c6;omega
  refine jN (ou H) ou.up (as:=bs.zip (bv true p (p.headD []).length)) (emb:=λx=>V.ref x.1) (ys:=a_ (1,v) p) hlen (λσ=>∃x y,σ=[x,y,some (V.ref a)]) ⟨_,_,rfl⟩ (λH' s=>by rw[<- hA.zip];exact aQ.of (s _ _ hb)) (by rw[List.length_zip];omega) ?_ ?_
  ·rintro i ⟨b,k⟩ y hx hy σ H' N1 N0 ⟨x0,y0,rfl⟩ sm k1
   obtain⟨hk,hbk⟩:=hA.at hx;have hk:(bv true p (p.headD []).length)[i]?=some k:=hk;have hy':((bv true p (p.headD []).length).map λk=>[(k.1,v.o1),(k.2,v.o2)])[i]?=some y:=hy;rw[JO,hk]at hy';cases hy';walk_at "wp";have a1:=sm _ _ ha;refine⟨_,jv.of (sm _ _ hbk),rfl,_,_,rfl,_,_,rfl,rfl,C,dx,_,a1,cl,na.1,_,rfl,au nofun,λt1 ht1=>?_⟩;generalize z0:aC H' t1 _=H1;obtain⟨s1,(e1:aT H1 t1 (k.1,v.o1))⟩:=iH ht1 z0;refine⟨C,dx,_,s1 _ _ a1,cl,na.2,_,rfl,au nofun,λt2 ht2=>⟨au nofun,λl hl=>?_⟩⟩;generalize z0:aC H1 t2 _=H2 at hl ⊢;obtain⟨s2,(e2:aT H2 t2 (k.2,v.o2))⟩:=iH ht2 z0;have s3:=aj (o:=.lst [V.ref t1,V.ref t2]) hl;have s12:=s1.trans s2;exact k1 l _ _ ⟨sm.free (s12.free hl),[t1,t2],ae,aK.two ((e1.up s2).up s3) (e2.up s3)⟩ (sm.trans (s12.trans s3)) (s12.trans s3) ⟨_,_,rfl⟩
  ·intro ws H' sm hW l hl
   exact q l _ (sm.free hl) ⟨ws,ae,hW.mono λb y _ _ h=>ou.up h (aj hl)⟩ (sm.trans (aj hl))
abbrev eS:Stmt:=ib 39 4
theorem pE:aB ["self","cuts"] ["self","cuts"] (ak eS):=by walk_at "c"
theorem pM{f CC C:Addr}{fd:KO}(F:dw K "ways" "AboveRule.ways" eS f fd)(cc:iQ K CC)(nc:DS K CC)(cl:iQ K C)(na:ax K C "one"/\ax K C "other"):aR P w K mg base bB 1 f fd ["self","cuts"] (dm CC C 2):=by
 have sc:=pE;walk_at "f"
 ·obtain⟨a,dx,lp,cu,v,p,r,c,rfl,_⟩:=h;rfl
 ·obtain⟨a,dx,lp,cu,v,p,r,c,rfl,ha,⟨dc,l1,l2,l3,hc,_,_,⟨bs,hb,hA⟩⟩,hp,t0,t7,q⟩:=h
  have hu:=hr.units;refine⟨_,(ag (aJ (c5 ["first","second"] [0] rfl (bH.of (by kernel_rfl)) (by kernel_rfl) (bD (bK (al 1) rfl))
    (λ_ _ _ _=>(mR (K:=K) (n:=2) rfl rfl (aS (aA (i:=0) (by show(["first","second","self"]:List Str).Nodup;decide +kernel) rfl (Or.inl rfl)) (aS (aA (i:=1) (by show(["first","second","self"]:List Str).Nodup;decide +kernel) rfl (Or.inl rfl)) dU)))) (λ_ _ _ _=>cN) (λ_ _ _ _=>(bE (ac (bJ (ac (al 0) (ac (mM (K:=K) rfl (al 2) rfl) ad))) (ac (bJ (ac (al 1) (ac (mM (K:=K) rfl (al 2) rfl) ad))) ad))))))),?_⟩
  walk_at "wp";refine⟨CC,dc,_,hc,cc,nc.2.2.2,_,rfl,_,rfl,⟨_,aQ.of hb⟩,?_⟩;have hlen:(bs.zip (bv false p p.length)).length=(a_ (2,v) p).length:=by
   show _=((bv false p p.length).map _).length;rw[List.length_zip,hA.1,JM,Nat.min_self]
  have hpl:(bv false p p.length).length<=6:=by
   unfold bv;rw[JM,List.length_range,hp.rc.1];have:=hp.r6;omega
  refine jN (ou H) ou.up (as:=bs.zip (bv false p p.length)) (emb:=λx=>V.ref x.1) (ys:=a_ (2,v) p) hlen (λσ=>∃x y,σ=[x,y,some (V.ref a)]) ⟨_,_,rfl⟩ (λH' s=>by rw[<- hA.zip];exact aQ.of (s _ _ hb)) (by rw[List.length_zip];omega) ?_ ?_
  ·rintro i ⟨b,k⟩ y hx hy σ H' N1 N0 ⟨x0,y0,rfl⟩ sm k1
   obtain⟨hk,hbk⟩:=hA.at hx;have hk:(bv false p p.length)[i]?=some k:=hk;have hy':((bv false p p.length).map λk=>[(k.1,v.o1),(k.2,v.o2)])[i]?=some y:=hy;rw[JO,hk]at hy';cases hy';walk_at "wp";have a1:=sm _ _ ha;refine⟨_,jv.of (sm _ _ hbk),rfl,_,_,rfl,_,_,rfl,rfl,C,dx,_,a1,cl,na.1,_,rfl,au nofun,λt1 ht1=>?_⟩;generalize z0:aC H' t1 _=H1;obtain⟨s1,(e1:aT H1 t1 (k.1,v.o1))⟩:=iH ht1 z0;refine⟨C,dx,_,s1 _ _ a1,cl,na.2,_,rfl,au nofun,λt2 ht2=>⟨au nofun,λl hl=>?_⟩⟩;generalize z0:aC H1 t2 _=H2 at hl ⊢;obtain⟨s2,(e2:aT H2 t2 (k.2,v.o2))⟩:=iH ht2 z0;have s3:=aj (o:=.lst [V.ref t1,V.ref t2]) hl;have s12:=s1.trans s2;exact k1 l _ _ ⟨sm.free (s12.free hl),[t1,t2],ae,aK.two ((e1.up s2).up s3) (e2.up s3)⟩ (sm.trans (s12.trans s3)) (s12.trans s3) ⟨_,_,rfl⟩
  ·intro ws H' sm hW l hl
   exact q l _ (sm.free hl) ⟨ws,ae,hW.mono λb y _ _ h=>ou.up h (aj hl)⟩ (sm.trans (aj hl))
abbrev fA:Stmt:=ib 40 4
theorem tW:aB ["self","cuts"] ["self","cuts"] (ak fA):=by walk_at "c"
theorem rV{f CC C:Addr}{fd:KO}(F:dw K "ways" "TurnRule.ways" fA f fd)(cc:jc K CC)(cl:iQ K C)(na:ax K C "part"/\ax K C "turning")(zRa:ig P w K mg base bB 4 CC "turned_text" ["self","t"] (fe CC))(yaV:dL P w K mg base bB 1 "back" ["t"] w_):aR P w K mg base bB 5 f fd ["self","cuts"] (dm CC C 3):=by
 have sc:=tW;walk_at "f"
 ·obtain⟨a,dx,lp,cu,v,p,r,c,rfl,_⟩:=h;rfl
 ·obtain⟨a,dx,lp,cu,v,p,r,c,rfl,ha,hC,hp,t0,t7,q⟩:=h
  refine⟨_,(ag (aJ (bE (ac (bE (ac (bJ (ac (mL zRa (hr.mono nofun) aM (al 1) (ac (aE yaV (hr.mono nofun) rfl aM (ac (bK (al 0) rfl) ad)) ad)) (ac (bK (al 0) rfl) ad))) ad)) ad)))),?_⟩;walk_at "wp";obtain⟨dc,l1,l2,l3,hc,hr1⟩:=id hC;refine⟨dc,_,hc,rfl,C,dx,_,ha,cl,na.2,_,rfl,v.t.toNat,?_,⋯,?_⟩
  ·rw[KA t0]
  have hb8:dA v.t.toNat<8:=(by decide:∀t,t<8->dA t<8) _ ⋯;refine⟨cu,p,r,c,dA v.t.toNat,rfl,hC,hp,hb8,λH1 s1=>⟨C,dx,_,s1 _ _ ha,cl,na.1,_,rfl,au nofun,λt1 ht1=>⟨au nofun,λl1 hl1=>⟨au nofun,λl2 hl2=>?_⟩⟩⟩⟩;generalize z0:aC H1 t1 _=H2 at hl1 hl2 ⊢;obtain⟨s2,(e2:aT H2 t1 (aZ (turned p (dA v.t.toNat)),v.o1))⟩:=iH ht1 z0;generalize z0:aC H2 l1 _=H3 at hl2 ⊢;obtain⟨s3,e3⟩:=iH hl1 z0;have s4:=aj (o:=.lst [V.ref l1]) hl2;exact q l2 _ (s1.free (s2.free (s3.free hl2))) ⟨[l1],ae,aK.one ⟨s1.free (s2.free hl1),[t1],s4 _ _ e3,aK.one ((e2.up s3).up s4)⟩⟩ (s1.trans (s2.trans (s3.trans s4)))
def nY(R:RC)(CC:Addr):List (Addr×Sp):=[(R.cc,dm CC R.cc 0),(R.cb,dm CC R.cb 1),(R.ca,dm CC R.ca 2),(R.ct,dm CC R.ct 3)]
theorem Bh{R:RC}{CC:Addr}{H:Hp}{k a cu:Addr}{v:RV}{p:aF}{r c:Nat}{Q:VK}{E:XK}(hk:k<4)(ra:fT R H k a v)(hC:d_ CC H cu p)(hp:iE p r c)(t0:0<=v.t)(t7:v.t<=7)(q:∀l H',H l=none->jK (ou H) H' l (a_ (k,v) p)->aD H H'->Q (.ref l) H') :
  ∃o∈nY R CC,∃dx fs,H a=some (.ins o.1 dx fs)/\fs.lookup ("ways":Str)=none/\o.2 [.ref a,.ref cu] H Q E:=by
 obtain⟨dx,l,h1,h2⟩:=ra;rcases fQ hk with rfl | rfl | rfl | rfl
 ·exact⟨(R.cc,dm CC R.cc 0),by simp[nY],dx,_,h1,rfl,a,dx,l,cu,v,p,r,c,rfl,h1,hC,hp,t0,t7,q⟩
 ·exact⟨(R.cb,dm CC R.cb 1),by simp[nY],dx,_,h1,rfl,a,dx,l,cu,v,p,r,c,rfl,h1,hC,hp,t0,t7,q⟩
 ·exact⟨(R.ca,dm CC R.ca 2),by simp[nY],dx,_,h1,rfl,a,dx,l,cu,v,p,r,c,rfl,h1,hC,hp,t0,t7,q⟩
 ·exact⟨(R.ct,dm CC R.ct 3),by simp[nY],dx,_,h1,rfl,a,dx,l,cu,v,p,r,c,rfl,h1,hC,hp,t0,t7,q⟩
abbrev lE:Stmt:=gW 28
def qH:Option Int->V
 |some c=>.int c
 |none=>.non
inductive om(R:RC)(vs:List V)(H:Hp)(Q:VK)(_E:XK):Prop
 |mk (a lw d:Addr) (k:Nat) (v:RV) (way:List Ky) (T:Ky->Option Int) (_:vs=[.ref a,.ref lw,.ref d]) (_:fT R H k a v) (_:ke H lw way) (_:iL H d T) (_:Q (qH (bP T v.c way)) H)
theorem wg:aB ["rule","way","told","cost","key"] ["rule","way","told"] (ak lE):=by walk_at "c"
theorem vP{R:RC}{f:Addr}{fd:KO}(F:dw K "cost_by" "cost_by" lE f fd)(nb:NB mg)(rk:lB K R):aR P w K mg base bB 1 f fd ["rule","way","told"] (om R):=by
 have sc:=wg;walk_at "f"
 ·obtain⟨a,lw,d,k,v,way,T,rfl,_⟩:=h;rfl
 ·obtain⟨a,lw,d,k,v,way,T,rfl,⟨rdx,rl,hra,_⟩,⟨bs,hb,hA⟩,hT,q⟩:=h
  have hu:=hr.units;refine⟨_,(af (aH (i:=3) sc.nd rfl (Or.inl rfl) (bK (al 0) rfl))
   (af (bj PassesOwn.never rfl (bD (al 1)) (aA (i:=4) sc.nd rfl (Or.inl rfl))
   (af (ce (nB (lu (Kq (Kv (by decide:1<=64) _) hu) (al 4) (al 2)) (by with_unfolding_all rfl))
   (ag (aJ wJ))
   bu)
   (ag (aH (i:=3) sc.nd rfl (Or.inl rfl) (az (bx.m0 bi) (al 3) (iX (Kq (Kv (by decide:1<=64) _) hu) (al 2) (al 4) (λ_ _=>rfl)))))))
   (ag (aJ (al 3))))),?_⟩
  walk_at "n";refine⟨_,_,_,hra,(rk.icls k).cl,(rk.name k).2.1,_,(iU rl v k).2.1,h1 _ _ ?_⟩;walk_at "nc";refine⟨⟨_,aQ.of hb⟩,?_⟩;refine bZ (xs:=bs.map V.ref) (λi σ H'=>H'=H/\i<=way.length/\∃(c:Int) (x:Option V),bP T v.c way=bP T c (way.drop i)/\σ=[some (V.ref a),some (V.ref lw),some (V.ref d),some (V.int c),x]) ⟨rfl,J9 _,v.c,_,rfl,rfl⟩ (λi σ H' _ h=>by rw[h.1];exact aQ.of hb) ?_ ?_
  ·rintro i x σ H' hx ⟨rfl,hi,c,x0,hc,rfl⟩
   rw[JO]at hx;obtain⟨b,hbi,rfl⟩:=Ka.mp hx;obtain⟨key,hk,hkb⟩:=hA.get hbi;have pr:=(JK.mp hk).1;have hd:way.drop i=key::way.drop (i+1):=by
    rw[List.drop_eq_getElem_cons pr];rw[JJ pr]at hk;cases hk;rfl
   rw[hd,show bP T c (key::way.drop (i+1))=(match T key with | none=>none | some v=>bP T (c+v) (way.drop (i+1))) from rfl]at hc;have hg:=hT.get hkb;walk_at "n";refine⟨_,hg,?_⟩;cases hT2:T key with
   |none=>
    rw[hT2]at hc;rw[if_pos (by rfl)];rw[show bP T v.c way=none from hc]at q;exact q
   |some u=>
    rw[hT2]at hc hg;rw[if_neg (by simp)];refine h1 _ _ ?_;clear h1;walk_at "wp";exact⟨_,hg,_,rfl,pr,_,hc,rfl⟩
  ·rintro σ H' ⟨rfl,hi,c,x0,hc,rfl⟩
   refine h1 _ _ ?_;walk_at "wp";rw[JM,hA.1,List.drop_length]at hc;rw[hc]at q;exact q
def vE(T:Ky->Option Int)(p:aF)(n:Nat)(r:Nat×RV):List (Int×Nat×List Ky):=(a_ r p).filterMap λw=>(bP T r.2.c w).map λc=>(c,n,w)
def cE(T:Ky->Option Int)(rs:Yaa)(p:aF)(n:Nat):List (Int×Nat×List Ky):=match rs[n]? with
 |none=>[]
 |some r=>vE T p n r
def tE(H:Hp)(b:Addr)(y:Int×Nat×List Ky):Prop:=∃lw,H b=some (.tup [.int y.1,.int (y.2.1:Int),.ref lw])/\ke H lw y.2.2
def iq(l:Addr)(H:Hp)(b:Addr)(y:Int×Nat×List Ky):Prop:=∃lw,lw≠l/\H b=some (.tup [.int y.1,.int (y.2.1:Int),.ref lw])/\ke H lw y.2.2
theorem iq.up{l:Addr}{H H':Hp}{b:Addr}{y:Int×Nat×List Ky}(h:iq l H b y)(s:aD H H'):iq l H' b y:=let ⟨lw,h0,h1,h2⟩:=h;⟨lw,h0,s _ _ h1,sU h2 s⟩
theorem xO{H:Hp}{a l:Addr}{y:List Ky}{xs:List V}{o:HO}(h:ke H a y)(hl:H l=some (.lst xs))(ne:a≠l):ke (aC H l o) a y:=by
 obtain⟨bs,h1,h2⟩:=h;exact⟨bs,by rw[ai ne];exact h1,h2.mono λb k _ _ q=>q.put hl⟩
theorem iq.put{l:Addr}{H:Hp}{b:Addr}{y:Int×Nat×List Ky}{xs:List V}{o:HO}(h:iq l H b y)(hl:H l=some (.lst xs)):iq l (aC H l o) b y:=by
 obtain⟨lw,h0,h1,h2⟩:=h;exact⟨lw,h0,by rw[ai (λz=>by rw[z,hl]at h1;cases h1)];exact h1,xO h2 hl h0⟩
abbrev og:Stmt:=gW 29
inductive pS(R:RC)(CG CC:Addr)(vs:List V)(H:Hp)(Q:VK)(_E:XK):Prop
 |mk (g dx ln cu d:Addr) (sg st:KI) (as:KM) (rs:Yaa) (ns:KI) (p:aF) (r c:Nat) (T:Ky->Option Int) (_:vs=[.ref g,.ref ln,.ref cu,.ref d]) (_:cO R H CG dx g sg st as rs) (_:(∀r∈rs,pP r)) (_:H ln=some (.lst (vp ns))) (_:(∀n∈ns,n<rs.length)) (_:ns.length<=100) (_:d_ CC H cu p) (_:iE p r c) (_:iL H d T) (_:∀l H',H l=none->jK tE H' l (ns.flatMap (cE T rs p))->aD H H'->Q (.ref l) H')
theorem zk:aB ["grammar","numbers","cuts","told","found","number","rule","way","cost"] ["grammar","numbers","cuts","told"] (ak og):=by walk_at "c"
theorem pX{r:Nat×RV}{p:aF}{a c:Nat}(h4:r.1<4)(hp:iE p a c):(a_ r p).length<=6:=by
 obtain⟨k,v⟩:=r;have:=hp.r6;have:=hp.c6;rcases fQ h4 with h | h | h | h<;>(simp only at h;subst h)
 ·show(if aZ p=v.sg then[[]] else[]).length<=6
  split<;>simp
 ·show((bv true p (p.headD []).length).map _).length<=6
  unfold bv;rw[JM,JM,List.length_range,aU hp.rc hp.r0];omega
 ·show((bv false p p.length).map _).length<=6
  unfold bv;rw[JM,JM,List.length_range,hp.rc.1];omega
 ·show([[_]]:List (List Ky)).length<=6
  simp
theorem yK{α β:Type}(f:α->List β){xs:List α}{i:Nat}{x:α}(h:xs[i]?=some x):(xs.take (i+1)).flatMap f=(xs.take i).flatMap f++f x:=by
 rw[List.take_add_one,h,List.flatMap_append];simp
theorem yf{R:RC}{f CG CC:Addr}{fd:KO}(F:dw K "coming" "coming" og f fd)(nb:NB mg)(yag:ig P w K mg base bB 1 CG "rule" ["self","k"] (eO R CG))(yaF:v6 P w K mg base bB 5 "ways" (nY R CC))(yaP:dL P w K mg base bB 1 "cost_by" ["rule","way","told"] (om R)):aR P w K mg base bB 6 f fd ["grammar","numbers","cuts","told"] (pS R CG CC):=by
 have sc:=zk;walk_at "f"
 ·obtain⟨g,dx,ln,cu,d,sg,st,as,rs,ns,p,r,c,T,rfl,_⟩:=h;rfl
 ·obtain⟨g,dx,ln,cu,d,sg,st,as,rs,ns,p,r,c,T,rfl,hG,hg,hln,hns,hn100,hC,hp,hT,q⟩:=h
  have hu:=hr.units;refine⟨_,(af (aH (i:=4) sc.nd rfl (Or.inl rfl) (bE ad))
   (af (bj PassesOwn.never rfl (bD (al 1)) (aA (i:=5) sc.nd rfl (Or.inl rfl))
   (af (aH (i:=6) sc.nd rfl (Or.inl rfl) (mL yag (hr.mono nofun) aM (al 0) (ac (al 5) ad)))
   (ag (bj PassesOwn.never rfl (bD (Dp yaF (hr.mono nofun) aM (al 6) (ac (al 2) ad))) (aA (i:=7) sc.nd rfl (Or.inl rfl))
   (af (aH (i:=8) sc.nd rfl (Or.inl rfl) (aE yaP (hr.mono nofun) rfl aM (ac (al 6) (ac (al 7) (ac (al 3) ad)))))
   (ag (ce (br Cj (al 8) wJ (bO _))
   (ag (bw (eC PySem.F.plainAttrs_list PySem.F.slot_list_append PySem.F.type_list_append bX (al 4) (ac (bJ (ac (al 8) (ac (al 5) (ac (al 7) ad)))) ad))))
   bu)))))))
   (ag (aJ (al 4))))),?_⟩
  walk_at "n";refine⟨J9 _,λl hl=>h1 _ _ ?_⟩;clear h1;generalize z0:aC H l _=H1;obtain⟨s1,e1⟩:=iH hl z0;walk_at "n";refine⟨⟨_,aQ.of (s1 _ _ hln)⟩,?_⟩;refine bZ (xs:=vp ns) (λi σ H'=>aD H H'/\i<=ns.length/\(∃bs:List Addr,H' l=some (.lst (bs.map V.ref))/\aK (iq l) H' bs ((ns.take i).flatMap (cE T rs p))/\bs.length<=6*i)/\∃x1 x2 x3 x4,σ=[some (V.ref g),some (V.ref ln),some (V.ref cu),some (V.ref d),some (V.ref l),x1,x2,x3,x4]) ⟨s1,J9 _,⟨[],e1,aK.nil,J9 _⟩,_,_,_,_,rfl⟩ (λi σ H' _ h=>aQ.of (h.1 _ _ hln)) ?_ ?_
  ·rintro i x σ H' hx ⟨sm,_,⟨bs,hb,hA,hbl⟩,x1,x2,x3,x4,rfl⟩
   rw[vp,JO]at hx;obtain⟨n,hn,rfl⟩:=Ka.mp hx;have hi:=(JK.mp hn).1;have hnr:=hns n (JP hn);obtain⟨q0,hq0⟩:∃q0,rs[n]?=some q0:=⟨_,JJ hnr⟩;have hq4:=hg q0 (JP hq0);have hG1:=hG.up sm;obtain⟨lk,pn,t0,ha,hkk,hrs,hN,hmm⟩:=id hG1;obtain⟨b,hb'⟩:∃b,as[n]?=some b:=⟨_,JJ (by rw[hrs.1];exact hnr)⟩;have hrb:=hrs.2 n b q0 hb' hq0;rw[yK _ hn,show cE T rs p n=vE T p n q0 by unfold cE;rw[hq0]];walk_at "n";refine⟨dx,_,ha,rfl,g,dx,sg,st,as,rs,n,b,rfl,hG1,hb',h1 _ _ ?_⟩;clear h1;walk_at "wp";refine Bh hq4.k4 hrb (hC.up sm) hp hq4.good.t0 hq4.good.t7 λlw H2 hlw hW s2=>?_;obtain⟨ws,hws,hWA⟩:=hW;have hwl:=pX hq4.k4 hp;refine⟨lw,rfl,⟨_,aQ.of hws⟩,?_⟩;have sm2:=sm.trans s2;have hT2:=hT.up sm2;have hrb0:fT R H q0.1 b q0.2:=let ⟨_,_,_,_,_,hrs0,_,_⟩:=hG;hrs0.2 n b q0 hb' hq0
   have hb2:=s2 _ _ hb;have hlw2:lw≠l:=λe=>by rw[e,hb]at hlw;cases hlw
   have h0:aK (iq l) H2 bs ((ns.take i).flatMap (cE T rs p)++((a_ q0 p).take 0).filterMap λw=>(bP T q0.2.c w).map λc=>(c,n,w)):=by
    show aK (iq l) H2 bs ((ns.take i).flatMap (cE T rs p)++[]);rw[Kg];exact hA.mono λb y _ _ h=>h.up s2
   refine bZ (xs:=ws.map V.ref) (λj σ H3=>aD H H3/\H3 lw=some (.lst (ws.map V.ref))/\aK ke H3 ws (a_ q0 p)/\(∀a∈ws,a≠l)/\j<=ws.length/\(∃bs:List Addr,H3 l=some (.lst (bs.map V.ref))/\aK (iq l) H3 bs ((ns.take i).flatMap (cE T rs p)++((a_ q0 p).take j).filterMap λw=>(bP T q0.2.c w).map λc=>(c,n,w))/\bs.length<=6*i+j)/\∃x1 x2,σ=[some (V.ref g),some (V.ref ln),some (V.ref cu),some (V.ref d),some (V.ref l),some (V.int (n:Int)),some (V.ref b),x1,x2])
    ⟨sm2,hws,hWA.mono λ_ _ _ _ h=>h.2,λa ha=>?_,J9 _,⟨bs,hb2,h0,⋯⟩,_,_,rfl⟩ (λj σ H3 _ h=>aQ.of h.2.1) ?_ ?_
   ·obtain⟨j,hj⟩:=List.mem_iff_getElem?.mp ha
    obtain⟨y,_,hy⟩:=hWA.get hj;exact λe=>by have:=hy.1;rw[e,hb]at this;cases this
   ·rintro j x σ H3 hx ⟨sm3,hw3,hW3,hnl,_,⟨bs3,hb3,hA3,hl3⟩,y1,y2,rfl⟩
    rw[JO]at hx;obtain⟨wa,hwa,rfl⟩:=Ka.mp hx;obtain⟨way,hway,hwy⟩:=hW3.get hwa;have hj:=(JK.mp hwa).1;have hwlen:=hW3.1;have hrb3:=hrb0.up sm3;walk_at "n";refine⟨b,wa,d,q0.1,q0.2,way,T,rfl,hrb3,hwy,hT.up sm3,h1 _ _ ?_⟩;clear h1;rw[List.take_add_one,hway,List.filterMap_append,<- Kh];walk_at "wp";cases hcw:bP T q0.2.c way with
    |none=>
     rw[if_neg (λh=>h rfl)];refine⟨sm3,hw3,hW3,hnl,hj,bs3,hb3,?_,⋯⟩;rw[show(some way).toList.filterMap (λw=>(bP T q0.2.c w).map λc=>(c,n,w))=[] by simp[hcw],Kg];exact hA3
    |some cst=>
     rw[if_pos (λh=>nomatch h)];refine⟨.inl ⟨rfl,_,aQ.of hb3⟩,au nofun,λtp htp=>?_⟩;generalize z0:aC H3 tp _=H4;obtain⟨s4,(e4:H4 tp=some (.tup [.int cst,.int (n:Int),.ref wa]))⟩:=iH htp z0;have hb4:=s4 _ _ hb3;have hwl2:=hnl wa (JP hwa);refine⟨_,hb4,by rw[JM];exact bh ⋯,bQ (sm3.trans s4) hl,by rw[ai hlw2];exact s4 _ _ hw3,hW3.mono λb y hb _ h=>xO (sU h s4) hb4 (hnl b hb),hnl,hj,bs3++[tp],by rw[ae,JX];rfl,?_,by rw[J7];simp;omega⟩;rw[show(some way).toList.filterMap (λw=>(bP T q0.2.c w).map λc=>(c,n,w))=[(cst,n,way)] by simp[hcw]];exact(hA3.mono λb y _ _ h=>(h.up s4).put hb4).snoc (iq.put ⟨wa,hwl2,e4,sU hwy s4⟩ hb4)
   ·rintro σ H3 ⟨sm3,hw3,hW3,hnl,_,⟨bs3,hb3,hA3,hl3⟩,y1,y2,rfl⟩
    rw[JM,hW3.1,Kj]at hA3;rw[JM]at hl3;exact⟨sm3,hi,⟨bs3,hb3,hA3,by have:=hW3.1;omega⟩,_,_,_,_,rfl⟩
  ·rintro σ H' ⟨sm,_,⟨bs,hb,hA,hbl⟩,x1,x2,x3,x4,rfl⟩
   refine h1 _ _ ?_;walk_at "wp";rw[vp,JM,Kj]at hA;exact q l H' hl ⟨bs,hb,hA.mono λb y _ _ h=>let ⟨lw,_,h1,h2⟩:=h;⟨lw,h1,h2⟩⟩ sm
def FU:HO->Prop
 | .dT _=>True
 |_=>False
def Kp(H H':Hp):Prop:=∀x o,¬ FU o->H x=some o->H' x=some o
theorem Kp.lst{H H':Hp}(s:Kp H H'){a:Addr}{xs:List V}(h:H a=some (.lst xs)):H' a=some (.lst xs):=s _ _ id h
theorem Kp.tup{H H':Hp}(s:Kp H H'){a:Addr}{xs:List V}(h:H a=some (.tup xs)):H' a=some (.tup xs):=s _ _ id h
theorem Kp.ins{H H':Hp}(s:Kp H H'){a C dx:Addr}{fs:List (Str×V)}(h:H a=some (.ins C dx fs)):H' a=some (.ins C dx fs):=s _ _ id h
theorem Kp.dK{H H':Hp}(s:Kp H H'){a:Addr}{fs:List (cC×V)}(h:H a=some (.dK fs)):H' a=some (.dK fs):=s _ _ id h
theorem bg.kp{R:RC}{H H':Hp}{as:KM}{rs:Yaa}(h:bg R H as rs)(s:Kp H H'):bg R H' as rs:=by
 refine⟨h.1,λi a r e1 e2=>?_⟩;obtain⟨dx,l,h1,h2⟩:=h.2 i a r e1 e2;exact⟨dx,l,s.ins h1,s.lst h2⟩
theorem cO.kp{R:RC}{H H':Hp}{C dx a:Addr}{sg st:KI}{as:KM}{rs:Yaa}(g:cO R H C dx a sg st as rs)(s:Kp H H'):cO R H' C dx a sg st as rs:=by
 obtain⟨lk,pn,t,h1,h2,h3,h4,h5⟩:=g;exact⟨lk,pn,t,s.ins h1,s.lst h2,h3.kp s,⟨s.dK h4.dict,λx hx=>s.lst (h4.list x hx),h4.apart⟩,h5⟩
theorem aN.kp{d:Addr}{H H':Hp}{m:List (List cC×V)}(s:aN d H H')(hd:H d=some (.dT m)):Kp H H':=λx o h e=>s x o (λz=>by rw[z,hd]at e;cases e;exact h trivial) e
theorem BK{β:Type}{A:Hp->Addr->β->Prop}{H H':Hp}(u:∀{b:Addr} {y:β},A H b y->A H' b y)(s:Kp H H'){l:Addr}{ys:List β}(h:jK A H l ys):jK A H' l ys:=by
 obtain⟨bs,h1,h2⟩:=h;exact⟨bs,s.lst h1,h2.mono λb y _ _ q=>u q⟩
theorem aT.kp{H H':Hp}{a:Addr}{k:Ky}(h:aT H a k)(s:Kp H H'):aT H' a k:=s.tup h
theorem d_.kp{CC:Addr}{H H':Hp}{c:Addr}{p:aF}(h:d_ CC H c p)(s:Kp H H'):d_ CC H' c p:=by
 obtain⟨dx,lp,lb,la,h1,h2,h3,h4⟩:=h;exact⟨dx,lp,lb,la,s.ins h1,s.lst h2,BK (A:=aT) (λq=>q.kp s) s h3,BK (A:=aT) (λq=>q.kp s) s h4⟩
theorem tE.kp{H H':Hp}{b:Addr}{y:Int×Nat×List Ky}(h:tE H b y)(s:Kp H H'):tE H' b y:=let ⟨lw,h1,h2⟩:=h;⟨lw,s.tup h1,BK (A:=aT) (λq=>q.kp s) s h2⟩
abbrev Tb:=List (Ky×Int)
def qX(e:Ky×Int):List cC×V:=(jA e.1,.int e.2)
def aI(tb:Tb)(k:Ky):Option Int:=(tb.find? λe=>decide (e.1=k)).map (·.2)
def ph(tb:Tb)(k:Ky)(v:Int):Tb:=if(aI tb k).isSome=true then tb.map (λe=>if e.1=k then(e.1,v) else e) else tb++[(k,v)]
theorem fb(e:Ky×Int)(tb:Tb)(k:Ky):aI (e::tb) k=if e.1=k then some e.2 else aI tb k:=by
 unfold aI;rw[List.find?_cons]
 by_cases h:e.1=k
 ·simp[h]
 ·simp[h]
theorem uF(tb:Tb)(k:Ky):cQ (tb.map qX) (jA k)=(aI tb k).map V.int:=by
 induction tb with
 |nil=>rfl
 |cons e tb ih=>
  rw[Kc,fb]
  by_cases h:e.1=k
  ·rw[gq (show(qX e).1=jA k from congrArg jA h),if_pos h];rfl
  ·rw[f_ (λq=>h (uO q)),if_neg h];exact ih
theorem A4(tb:Tb)(k:Ky)(v:Int):di (tb.map qX) (jA k) (.int v)=(ph tb k v).map qX:=by
 unfold di ph;rw[gn,uF,Option.isSome_map]
 split
 ·rw[JZ,JZ]
  refine List.map_congr_left λe _=>?_;show(if jA e.1=jA k then(jA e.1,V.int v) else qX e)=qX (if e.1=k then(e.1,v) else e)
  by_cases h:e.1=k
  ·rw[if_pos (congrArg jA h),if_pos h];rfl
  ·rw[if_neg λq=>h (uO q),if_neg h]
 ·rw[JX];rfl
theorem u_(k:Ky)(v:Int)(k':Ky):∀tb:Tb,aI (tb.map λe=>if e.1=k then(e.1,v) else e) k'=if k'=k then(aI tb k).map λ_=>v else aI tb k'
 | []=>by simp[aI]
 |e::tb=>by
  rw[Kc,fb,fb,fb,u_ k v k' tb]
  by_cases h:e.1=k
  ·by_cases h':k'=k
   ·simp[h,h']
   ·have:¬ k=k':=λq=>h' q.symm
    simp[h,h',this]
  ·by_cases h':k'=k
   ·subst h';simp[h]
   ·simp[h,h']
theorem p7(k:Ky)(v:Int)(k':Ky):∀tb:Tb,aI (tb++[(k,v)]) k'=match aI tb k' with
  |some u=>some u
  |none=>if k=k' then some v else none
 | []=>by simp[aI]
 |e::tb=>by
  rw[List.cons_append,fb,fb,p7 k v k' tb]
  by_cases h:e.1=k'
  ·simp[h]
  ·simp[h]
theorem yE(tb:Tb)(k:Ky)(v:Int)(k':Ky):aI (ph tb k v) k'=if k'=k then some v else aI tb k':=by
 unfold ph
 split
 ·rename_i h
  rw[u_];obtain⟨u,hu⟩:=Option.isSome_iff_exists.mp h;rw[hu];rfl
 ·rename_i h
  rw[p7]
  by_cases e:k'=k
  ·subst e
   have:aI tb k'=none:=by simpa using h
   rw[this,if_pos rfl]
  ·rw[if_neg e,if_neg λq=>e q.symm]
   cases aI tb k'<;>rfl
theorem Ai{tb:Tb}{k:Ky}(h:aI tb k=none):k∉tb.map (·.1):=by
 intro hk;obtain⟨e,he,rfl⟩:=Kt.mp hk;unfold aI at h;rw[Option.map_eq_none_iff,List.find?_eq_none]at h;exact h e he (by simp)
theorem qp(tb:Tb)(k:Ky)(v:Int):(ph tb k v).map (·.1)=if(aI tb k).isSome=true then tb.map (·.1) else tb.map (·.1)++[k]:=by
 unfold ph
 split
 ·rw[JZ]
  refine List.map_congr_left λe _=>?_;show(if e.1=k then(e.1,v) else e).1=e.1
  split<;>rfl
 ·rw[JX];rfl
theorem Dm{tb:Tb}{k:Ky}{v:Int}(nd:(tb.map (·.1)).Nodup):((ph tb k v).map (·.1)).Nodup:=by
 rw[qp]
 split
 ·exact nd
 ·rename_i h
  rw[List.nodup_append];refine⟨nd,by simp,λa ha b hb e=>?_⟩;rw[JN.mp hb]at e;exact Ai (by simpa using h) (e▸ha)
theorem Ax(tb:Tb)(k:Ky)(v:Int):(ph tb k v).length=if(aI tb k).isSome=true then tb.length else tb.length+1:=by
 have:=congrArg List.length (qp tb k v);rw[JM]at this;rw[this]
 split
 ·rw[JM]
 ·rw[J7,JM];rfl
def bT(H:Hp)(d:Addr)(tb:Tb):Prop:=H d=some (.dT (tb.map qX))
theorem bT.told{H:Hp}{d:Addr}{tb:Tb}(h:bT H d tb):iL H d (aI tb):=⟨_,h,λk=>uF tb k⟩
theorem bT.up{H H':Hp}{d:Addr}{tb:Tb}(h:bT H d tb)(s:aD H H'):bT H' d tb:=s _ _ h
def gB(tb:Tb)(k:Ky)(v:Int):Bool:=match aI tb k with
 |some u=>decide (v<u)
 |none=>true
def dB(tb:Tb)(k:Ky)(v:Int):Tb:=if gB tb k v=true then ph tb k v else tb
def ua(tb tb':Tb):Prop:=∀k u,aI tb k=some u->∃u',u'<=u/\aI tb' k=some u'
theorem ua.refl(tb:Tb):ua tb tb:=λk u h=>⟨u,Int.le_refl _,h⟩
theorem ua.trans{a b c:Tb}(h1:ua a b)(h2:ua b c):ua a c:=λk u h=>by
 obtain⟨u1,l1,e1⟩:=h1 k u h;obtain⟨u2,l2,e2⟩:=h2 k u1 e1;exact⟨u2,Int.le_trans l2 l1,e2⟩
theorem iR(tb:Tb)(k:Ky)(v:Int)(k':Ky):aI (dB tb k v) k'=if k'=k/\gB tb k v=true then some v else aI tb k':=by
 unfold dB
 by_cases h:gB tb k v=true
 ·rw[if_pos h,yE]
  by_cases e:k'=k
  ·rw[if_pos e,if_pos ⟨e,h⟩]
  ·rw[if_neg e,if_neg λq=>e q.1]
 ·rw[if_neg h,if_neg λq=>h q.2]
theorem tR{tb:Tb}{k:Ky}{v:Int}{k':Ky}(h:k'≠k):aI (dB tb k v) k'=aI tb k':=by rw[iR,if_neg λq=>h q.1]
theorem xg(tb:Tb)(k:Ky)(v:Int):∃v',v'<=v/\aI (dB tb k v) k=some v':=by
 rw[iR];cases h:gB tb k v with
 |true=>exact⟨v,Int.le_refl _,by simp⟩
 |false=>
  unfold gB at h;cases hg:aI tb k with
  |none=>rw[hg]at h;cases h
  |some u=>
   rw[hg]at h;have:¬ v<u:=by simpa using h
   exact⟨u,⋯,by simp⟩
theorem vV(tb:Tb)(k:Ky)(v:Int):ua tb (dB tb k v):=by
 intro k' u hu;rw[iR]
 by_cases e:k'=k/\gB tb k v=true
 ·rw[if_pos e]
  obtain⟨rfl,h⟩:=e;unfold gB at h;rw[hu]at h;have:v<u:=by simpa using h
  exact⟨v,⋯,rfl⟩
 ·rw[if_neg e];exact⟨u,Int.le_refl _,hu⟩
theorem sV{tb:Tb}{k:Ky}{v:Int}{k':Ky}{u:Int}(h:aI (dB tb k v) k'=some u):aI tb k'=some u\/k'=k/\u=v:=by
 rw[iR]at h
 split at h
 ·rename_i e
  exact .inr ⟨e.1,by injection h with h;exact h.symm⟩
 ·exact .inl h
theorem AX{tb:Tb}{k:Ky}{v:Int}(nd:(tb.map (·.1)).Nodup):((dB tb k v).map (·.1)).Nodup:=by
 unfold dB
 split
 ·exact Dm nd
 ·exact nd
theorem xD(tb:Tb)(k:Ky)(v:Int):(dB tb k v).length<=if(aI tb k).isSome=true then tb.length else tb.length+1:=by
 unfold dB
 split
 ·rw[Ax];exact J8 _
 ·split<;>omega
def zG(p:aF):Prop:=p≠[]/\bF p
theorem zG.inj{p q:aF}(h:zG p)(h':zG q)(e:aZ p=aZ q):p=q:=SpM.glue_inj 47 h.1 h'.1 h.2 h'.2 e
inductive Dv(rs:Yaa):Ky->Int->Prop
 |leaf {r:Nat×RV} {p:aF}:r∈rs->zG p->[]∈a_ r p->Dv rs (aZ p,r.2.n) r.2.c
 |one {r:Nat×RV} {p:aF} {k:Ky} {a:Int}:r∈rs->zG p->[k]∈a_ r p->Dv rs k a->Dv rs (aZ p,r.2.n) (r.2.c+a)
 |two {r:Nat×RV} {p:aF} {k1 k2:Ky} {a b:Int}:r∈rs->zG p->[k1,k2]∈a_ r p->Dv rs k1 a->Dv rs k2 b->Dv rs (aZ p,r.2.n) (r.2.c+a+b)
theorem p6{r:Nat×RV}{p:aF}{w:List Ky}(h:w∈a_ r p):w=[]\/(∃k,w=[k])\/∃k1 k2,w=[k1,k2]:=by
 unfold a_ at h
 split at h
 ·split at h
  ·exact .inl (JN.mp h)
  ·exact nomatch h
 ·obtain⟨k,_,rfl⟩:=Kt.mp h
  exact .inr (.inr ⟨_,_,rfl⟩)
 ·obtain⟨k,_,rfl⟩:=Kt.mp h
  exact .inr (.inr ⟨_,_,rfl⟩)
 ·exact .inr (.inl ⟨_,JN.mp h⟩)
theorem oH{T:Ky->Option Int}{c v:Int}{k:Ky}(h:bP T c [k]=some v):∃a,T k=some a/\v=c+a:=by
 unfold bP at h;cases hk:T k with
 |none=>rw[hk]at h;cases h
 |some a=>rw[hk]at h;injection h with h;exact⟨a,rfl,h.symm⟩
theorem uf{T:Ky->Option Int}{c v:Int}{k1 k2:Ky}(h:bP T c [k1,k2]=some v):∃a b,T k1=some a/\T k2=some b/\v=c+a+b:=by
 unfold bP at h;cases hk:T k1 with
 |none=>rw[hk]at h;cases h
 |some a=>
  rw[hk]at h;obtain⟨b,hb,e⟩:=oH h;exact⟨a,b,rfl,hb,e⟩
theorem CU{rs:Yaa}{T:Ky->Option Int}{r:Nat×RV}{p:aF}{w:List Ky}{v:Int}(hr:r∈rs)(hp:zG p)(hw:w∈a_ r p)(hc:bP T r.2.c w=some v)(hT:∀k∈w,∀u,T k=some u->Dv rs k u):Dv rs (aZ p,r.2.n) v:=by
 rcases p6 hw with rfl | ⟨k,rfl⟩ | ⟨k1,k2,rfl⟩
 ·injection hc with hc;rw[<- hc];exact .leaf hr hp hw
 ·obtain⟨a,ha,rfl⟩:=oH hc
  exact .one hr hp hw (hT k (by simp) a ha)
 ·obtain⟨a,b,ha,hb,rfl⟩:=uf hc
  exact .two hr hp hw (hT k1 (by simp) a ha) (hT k2 (by simp) b hb)
theorem iO{T T':Ky->Option Int}:∀{w:List Ky} {c:Int},(∀k∈w,T k=T' k)->bP T c w=bP T' c w
 | [],c,_=>rfl
 |k::w,c,h=>by
  show(match T k with | none=>none | some v=>bP T (c+v) w)=(match T' k with | none=>none | some v=>bP T' (c+v) w);rw[h k (List.mem_cons_self ..)];cases T' k with
  |none=>rfl
  |some v=>exact iO λk hk=>h k (J1 _ hk)
def GM(rs:Yaa)(T:Ky->Option Int)(q:aF):Prop:=∀r∈rs,∀w∈a_ r q,∀v,bP T r.2.c w=some v->∃v',v'<=v/\T (aZ q,r.2.n)=some v'
theorem qw{r:Nat×RV}{q:aF}{a c:Nat}(hq:rect q a c)(a0:0<a)(c0:0<c){w:List Ky}(hw:w∈a_ r q){k:Ky}(hk:k∈w) :
  (∃t l b x,t<b/\b<=a/\l<x/\x<=c/\k.1=aZ (cut q t l b x)/\ba (cut q t l b x)<ba q/\r.1<3)\/(3<=r.1/\w=[(aZ (turned q (dA r.2.t.toNat)),r.2.o1)]):=by
 have cell:∀{t l b x:Nat},t<b->b<=a->l<x->x<=c->(b-t<a/\x-l=c\/b-t=a/\x-l<c)->ba (cut q t l b x)<ba q:=by
  intro t l b x h1 h2 h3 h4 h5;have hc:=cn hq h1 h2 h3 h4;unfold ba;rw[hc.1,aU hc ⋯,hq.1,aU hq a0];rcases h5 with⟨h,e⟩ | ⟨e,h⟩
  ·rw[e];exact Nat.mul_lt_mul_of_pos_right h c0
  ·rw[e];exact Nat.mul_lt_mul_of_pos_left h a0
 unfold a_ at hw
 split at hw
 ·split at hw
  ·rw[JN.mp hw]at hk;exact nomatch hk
  ·exact nomatch hw
 ·rename_i hr
  obtain⟨k0,h0,rfl⟩:=Kt.mp hw;unfold bv at h0;obtain⟨j,hj,rfl⟩:=Kt.mp h0;have hj:=List.mem_range.mp hj;rw[aU hq a0]at hj
  left
  rcases J0.mp hk with rfl | hk
  ·exact⟨0,0,a,j+1,a0,J8 _,⋯,⋯,congrArg aZ (qf hq),cell a0 (J8 _) ⋯ ⋯ (.inr ⟨⋯,⋯⟩),⋯⟩
  ·rw[JN.mp hk]
   exact⟨0,j+1,a,c,a0,J8 _,⋯,J8 _,congrArg aZ (qI hq),cell a0 (J8 _) ⋯ (J8 _) (.inr ⟨⋯,⋯⟩),⋯⟩
 ·rename_i hr
  obtain⟨k0,h0,rfl⟩:=Kt.mp hw;unfold bv at h0;obtain⟨j,hj,rfl⟩:=Kt.mp h0;have hj:=List.mem_range.mp hj;rw[hq.1]at hj
  left
  rcases J0.mp hk with rfl | hk
  ·exact⟨0,0,j+1,c,⋯,⋯,c0,J8 _,congrArg aZ (qh hq),cell ⋯ ⋯ c0 (J8 _) (.inl ⟨⋯,⋯⟩),⋯⟩
  ·rw[JN.mp hk]
   exact⟨j+1,0,a,c,⋯,J8 _,c0,J8 _,congrArg aZ (pZ hq),cell ⋯ (J8 _) c0 (J8 _) (.inl ⟨⋯,⋯⟩),⋯⟩
 ·rename_i x h0 h1 h2
  right
  refine⟨?_,JN.mp hw⟩;rcases hh:r.1 with _ | _ | _ | n
  ·exact absurd hh h0
  ·exact absurd hh h1
  ·exact absurd hh h2
  ·omega
theorem dY{p q:aF}{r c:Nat}(hp:rect p r c)(hn:bF p)(h:bc p r c q):zG q:=by
 obtain⟨r',c',h1,h2,_⟩:=h.rect hp;exact⟨λe=>by rw[e]at h1;have:=h1.1;simp at this;omega,h.ns hp hn⟩
theorem kl{p q:aF}{r c:Nat}(hp:rect p r c)(h:bc p r c q){x:Nat×RV}(t0:0<=x.2.t)(t7:x.2.t<=7){w:List Ky}(hw:w∈a_ x q){k:Ky}(hk:k∈w):∃q',bc p r c q'/\k.1=aZ q'/\(ba q'<ba q\/3<=x.1/\q'=turned q (dA x.2.t.toNat)):=by
 obtain⟨a,b,h1,h2,h3,_⟩:=h.rect hp;rcases qw h1 h2 h3 hw hk with⟨t,l,b,y,k1,k2,k3,k4,k5,k6,_⟩ | ⟨k1,rfl⟩
 ·exact⟨_,h.cut hp h1 k1 k2 k3 k4,k5,.inl k6⟩
 ·rw[JN.mp hk]
  exact⟨_,h.turned hp (kn ⋯),rfl,.inr ⟨k1,rfl⟩⟩
theorem Ah{rs:Yaa}{T:Ky->Option Int}{p:aF}{r c:Nat}(hp:rect p r c)(hn:bF p)(hg:∀x∈rs,0<=x.2.t/\x.2.t<=7)(hC:∀q,bc p r c q->GM rs T q){k:Ky}{v:Int}(h:Dv rs k v):∀q,bc p r c q->k.1=aZ q->∃v',v'<=v/\T k=some v':=by
 induction h with
 | @leaf x q0 hr ho hw=>
  intro q hq e;have e:=ho.inj (dY hp hn hq) e;subst e;exact hC _ hq x hr _ hw _ rfl
 | @one x q0 k a hr ho hw _ ih=>
  intro q hq e;have e:=ho.inj (dY hp hn hq) e;subst e;obtain⟨q1,h1,e1,_⟩:=kl hp hq (hg x hr).1 (hg x hr).2 hw (k:=k) (by simp);obtain⟨a',la,ea⟩:=ih q1 h1 e1;obtain⟨v',l',e'⟩:=hC _ hq x hr _ hw (x.2.c+a') (by unfold bP;rw[ea];rfl);exact⟨v',⋯,e'⟩
 | @two x q0 k1 k2 a b hr ho hw _ _ ih1 ih2=>
  intro q hq e;have e:=ho.inj (dY hp hn hq) e;subst e;obtain⟨q1,h1,e1,_⟩:=kl hp hq (hg x hr).1 (hg x hr).2 hw (k:=k1) (by simp);obtain⟨q2,h2,e2,_⟩:=kl hp hq (hg x hr).1 (hg x hr).2 hw (k:=k2) (by simp);obtain⟨a',la,ea⟩:=ih1 q1 h1 e1;obtain⟨b',lb,eb⟩:=ih2 q2 h2 e2;obtain⟨v',l',e'⟩:=hC _ hq x hr _ hw (x.2.c+a'+b') (by unfold bP;rw[ea];show bP T _ [k2]=_;unfold bP;rw[eb];rfl);exact⟨v',⋯,e'⟩
def CK(q:aF)(ns:List (List Nat)):List Ky:=(List.range 8).flatMap λt=>ns.map λn=>(aZ (turned q t),n)
theorem jS{q:aF}{ns:List (List Nat)}{k:Ky}:k∈CK q ns↔∃t,t<8/\∃n,n∈ns/\k=(aZ (turned q t),n):=by
 unfold CK;simp only[List.mem_flatMap,List.mem_range,Kt]
 constructor
 ·rintro⟨t,ht,n,hn,rfl⟩;exact⟨t,ht,n,hn,rfl⟩
 ·rintro⟨t,ht,n,hn,rfl⟩;exact⟨t,ht,n,hn,rfl⟩
theorem rQ(q:aF)(ns:List (List Nat)):(CK q ns).length=8*ns.length:=by
 unfold CK;rw[List.length_flatMap];simp only[JM];show ns.length+(ns.length+(ns.length+(ns.length+(ns.length+(ns.length+(ns.length+(ns.length+0)))))))=_;omega
def gv(q:aF)(r:Nat×RV)(t:Nat):Ky:=(aZ (turned q (after t r.2.t.toNat)),r.2.n)
def Ap(trs:Yaa)(q:aF)(tb:Tb)(k:Ky)(v:Int):Prop:=∀r∈trs,r.2.o1=k.2->∀t,t<8->k.1=aZ (turned q t)->∃v',v'<=v+r.2.c/\aI tb (gv q r t)=some v'
theorem Ap.le{trs:Yaa}{q:aF}{tb tb':Tb}{k:Ky}{v:Int}(h:Ap trs q tb k v)(l:ua tb tb'):Ap trs q tb' k v:=λr hr e t ht e'=>by
 obtain⟨v1,l1,e1⟩:=h r hr e t ht e';obtain⟨v2,l2,e2⟩:=l _ _ e1;exact⟨v2,Int.le_trans l2 l1,e2⟩
theorem sZ{α:Type}{f g:α->Nat}:∀{ks:List α},(∀x∈ks,f x<=g x)->(ks.map f).sum<=(ks.map g).sum
 | [],_=>J8 _
 |k::ks,h=>by
  have h1:=h k (List.mem_cons_self ..);have h2:=sZ (ks:=ks) λx hx=>h x (J1 _ hx);rw[Kc,Kc,List.sum_cons,List.sum_cons];omega
theorem tJ{α:Type}{f g:α->Nat}:∀{ks:List α} {x:α},(∀x∈ks,f x<=g x)->x∈ks->f x<g x->(ks.map f).sum+1<=(ks.map g).sum
 | [],_,_,h,_=>nomatch h
 |k::ks,x,h,hx,hl=>by
  have h1:=h k (List.mem_cons_self ..);have hr:∀x∈ks,f x<=g x:=λx hx=>h x (J1 _ hx);rw[Kc,Kc,List.sum_cons,List.sum_cons];rcases J0.mp hx with rfl | hx
  ·have h2:=sZ hr;omega
  ·have h2:=tJ hr hx hl;omega
theorem m_{α:Type}{f:α->Nat}{b:Nat}:∀{ks:List α},(∀x∈ks,f x<=b)->(ks.map f).sum<=b*ks.length
 | [],_=>J9 _
 |k::ks,h=>by
  have h1:=h k (List.mem_cons_self ..);have h2:=m_ (ks:=ks) λx hx=>h x (J1 _ hx);rw[Kc,List.sum_cons,JW,Nat.mul_succ];omega
def vF(tb:Tb)(k:Ky):Nat:=match aI tb k with
 |some _=>1
 |none=>0
def CT(B:Nat)(tb:Tb)(k:Ky):Nat:=match aI tb k with
 |some v=>v.toNat
 |none=>B+1
def oA(ks:List Ky)(tb:Tb):Nat:=(ks.map (vF tb)).sum
def CB(ks:List Ky)(B:Nat)(tb:Tb):Nat:=(ks.map (CT B tb)).sum
theorem gG(ks:List Ky)(tb:Tb):oA ks tb<=ks.length:=by
 have:=m_ (f:=vF tb) (b:=1) (ks:=ks) λx _=>by unfold vF;split<;>omega
 unfold oA;omega
theorem xj{tb tb':Tb}(l:ua tb tb')(k:Ky):vF tb k<=vF tb' k:=by
 unfold vF;cases h:aI tb k with
 |none=>exact J9 _
 |some v=>
  obtain⟨v',_,e⟩:=l k v h;rw[e];exact J8 _
theorem D6{tb tb':Tb}(l:ua tb tb')(ks:List Ky):oA ks tb<=oA ks tb':=sZ λx _=>xj l x
theorem CI{tb tb':Tb}(l:ua tb tb'){ks:List Ky}{k:Ky}{v:Int}(hk:k∈ks)(h:aI tb k=none)(h':aI tb' k=some v):oA ks tb+1<=oA ks tb':=tJ (λx _=>xj l x) hk (by unfold vF;rw[h,h'];exact Nat.zero_lt_one)
structure TI(trs rs:Yaa)(q:aF)(ns:List (List Nat))(M L0:Nat)(tb0 tb:Tb)(op:Ky->Prop):Prop where
 nd:(tb.map (·.1)).Nodup
 le:ua tb0 tb
 out:∀k,k∉CK q ns->aI tb k=aI tb0 k
 snd:∀k∈CK q ns,∀v,aI tb k=some v->Dv rs k v
 sett:∀k∈CK q ns,∀v,aI tb k=some v->¬ op k->Ap trs q tb k v
 opk:∀k,op k->k∈CK q ns/\∃v,aI tb k=some v
 pos:∀k∈CK q ns,∀v,aI tb k=some v->1<=v/\v<=((M+9*oA (CK q ns) tb:Nat):Int)
 len:tb.length<=L0+oA (CK q ns) tb
theorem TI.op{trs rs:Yaa}{q:aF}{ns:List (List Nat)}{M L0:Nat}{tb0 tb:Tb}{op op':Ky->Prop}(h:TI trs rs q ns M L0 tb0 tb op)(h1:∀k,op' k->op k)(h2:∀k v,op k->¬ op' k->aI tb k=some v->Ap trs q tb k v):TI trs rs q ns M L0 tb0 tb op':=
 ⟨h.nd,h.le,h.out,h.snd,λk hk v e no=>by
  by_cases ho:op k
  ·exact h2 k v ho no e
  ·exact h.sett k hk v e ho,λk ho=>h.opk k (h1 k ho),h.pos,h.len⟩
theorem lJ{r:Nat×RV}(h:3<=r.1)(p:aF):a_ r p=[[(aZ (turned p (dA r.2.t.toNat)),r.2.o1)]]:=by
 unfold a_
 split
 ·omega
 ·omega
 ·omega
 ·rfl
structure GC(rs:Yaa)(ns:List (List Nat))(r:Nat×RV):Prop where
 mem:r∈rs
 k3:3<=r.1
 c1:1<=r.2.c
 c9:r.2.c<=9
 t0:0<=r.2.t
 t7:r.2.t<=7
 nm:r.2.n∈ns
theorem TI.low{trs rs:Yaa}{q:aF}{ns:List (List Nat)}{M L0 a c:Nat}{tb0 tb:Tb}{op:Ky->Prop}(h:TI trs rs q ns M L0 tb0 tb op)(hq:rect q a c)(a0:0<a)(c0:0<c)(hO:∀t,t<8->zG (turned q t))(h8:ns.length<=8){r:Nat×RV}(hr:GC rs ns r){t:Nat}(ht:t<8){v:Int}(hk:(aZ (turned q t),r.2.o1)∈CK q ns)(hv:aI tb (aZ (turned q t),r.2.o1)=some v) :
  TI trs rs q ns M L0 tb0 (dB tb (gv q r t) (v+r.2.c)) (λx=>op x\/(gB tb (gv q r t) (v+r.2.c)=true/\x=gv q r t))/\CB (CK q ns) (M+576) (dB tb (gv q r t) (v+r.2.c))+(if gB tb (gv q r t) (v+r.2.c)=true then 1 else 0)<=CB (CK q ns) (M+576) tb:=by
 have hu:r.2.t.toNat<8:=by have:=hr.t0;have:=hr.t7;omega
 have ha:=gi ht hu;have hin:gv q r t∈CK q ns:=jS.mpr ⟨_,ha,_,hr.nm,rfl⟩;have hdv:Dv rs (gv q r t) (v+r.2.c):=by
  rw[Int.add_comm];refine Dv.one hr.mem (hO _ ha) (k:=(aZ (turned q t),r.2.o1)) ?_ (h.snd _ hk v hv);rw[lJ hr.k3];have hqt:=cV hq a0 c0 t;rw[<- bC hq a0 c0 ht hu,ma hqt (by split<;>assumption) (by split<;>assumption) hu];exact JN.mpr rfl
 have hc1:=hr.c1;have hc9:=hr.c9;obtain⟨p1,p2⟩:=h.pos _ hk v hv;generalize gv q r t=k' at hin hdv ⊢;generalize hv':v+r.2.c=v' at hdv ⊢;cases hb:gB tb k' v' with
 |false=>
  have e:dB tb k' v'=tb:=by unfold dB;rw[hb];rfl
  rw[e];exact⟨h.op (λk hk=>hk.elim id λx=>absurd x.1 (by simp)) λk v ho no _=>absurd (.inl ho) no,by simp⟩
 |true=>
  have hle:=vV tb k' v';have hcl:=D6 hle (CK q ns);have hnew:aI (dB tb k' v') k'=some v':=by rw[iR,if_pos ⟨rfl,hb⟩]
  have h64:=gG (CK q ns) (dB tb k' v');rw[rQ]at h64;have hold:∀w,aI tb k'=some w->v'<w:=λw hw=>by
   unfold gB at hb;rw[hw]at hb
   simpa using hb
  have hcn:aI tb k'=none->oA (CK q ns) tb+1<=oA (CK q ns) (dB tb k' v'):=λhn=>CI hle hin hn hnew;have hv2:v'<=((M+9*oA (CK q ns) (dB tb k' v'):Nat):Int):=by
   cases hw:aI tb k' with
   |none=>have:=hcn hw;omega
   |some w=>
    have h1:=hold w hw;have h2:=(h.pos _ hin w hw).2;omega
  refine⟨⟨AX h.nd,h.le.trans hle,λk hk=>?_,λk hk w e=>?_,λk hk w e no=>?_,λk ho=>?_,λk hk w e=>?_,?_⟩,?_⟩
  ·rw[tR λe=>hk (by rw[e];exact hin)];exact h.out k hk
  ·rcases sV e with e | ⟨rfl,rfl⟩
   ·exact h.snd k hk w e
   ·exact hdv
  ·have ne:k≠k':=λe=>no (.inr ⟨rfl,e⟩)
   rw[tR ne]at e;exact(h.sett k hk w e λho=>no (.inl ho)).le hle
  ·rcases ho with ho | ⟨_,rfl⟩
   ·obtain⟨h1,w,h2⟩:=h.opk k ho
    obtain⟨w',_,h3⟩:=hle k w h2;exact⟨h1,w',h3⟩
   ·exact⟨hin,v',hnew⟩
  ·rcases sV e with e | ⟨rfl,rfl⟩
   ·have:=h.pos k hk w e
    exact⟨this.1,⋯⟩
   ·exact⟨⋯,hv2⟩
  ·have h1:=xD tb k' v'
   have h2:=h.len;cases hw:aI tb k' with
   |none=>rw[hw]at h1;have:=hcn hw;simp at h1;omega
   |some w=>rw[hw]at h1;simp at h1;omega
  ·rw[if_pos rfl]
   refine tJ (x:=k') (λx _=>?_) hin ?_
   ·unfold CT
    cases hx:aI tb x with
    |none=>
     by_cases e:x=k'
     ·subst e;rw[hnew]
      show v'.toNat<=_;simp only;omega
     ·rw[tR e,hx];exact J8 _
    |some w=>
     obtain⟨w',l1,e1⟩:=hle x w hx;rw[e1];show w'.toNat<=w.toNat;omega
   ·unfold CT
    rw[hnew];cases hx:aI tb k' with
    |none=>show v'.toNat<_;simp only;omega
    |some w=>
     have:=hold w hx;show v'.toNat<w.toNat;omega
theorem TI.mu{trs rs:Yaa}{q:aF}{ns:List (List Nat)}{M L0:Nat}{tb0 tb:Tb}{op:Ky->Prop}(h:TI trs rs q ns M L0 tb0 tb op)(h8:ns.length<=8):CB (CK q ns) (M+576) tb<=(M+577)*64:=by
 have h64:=gG (CK q ns) tb;have hl:=rQ q ns;have h1:CB (CK q ns) (M+576) tb<=(M+577)*(CK q ns).length:=m_ λx hx=>by
  unfold CT;cases hv:aI tb x with
  |none=>exact J8 _
  |some v=>
   have:=(h.pos x hx v hv).2;show v.toNat<=_;omega
 exact Kd h1 (Nat.mul_le_mul_left _ ⋯)
theorem TI.len64{trs rs:Yaa}{q:aF}{ns:List (List Nat)}{M L0:Nat}{tb0 tb:Tb}{op:Ky->Prop}(h:TI trs rs q ns M L0 tb0 tb op)(h8:ns.length<=8):tb.length<=L0+64:=by
 have h64:=gG (CK q ns) tb;have hl:=rQ q ns;have:=h.len;omega
def lN(rs:Yaa)(n:Nat):List Nat:=match rs[n]? with
 |some r=>r.2.n
 |none=>[]
def putL(rs:Yaa)(p:aF)(tb:Tb)(ys:List (Int×Nat×List Ky)):Tb:=ys.foldl (λtb y=>dB tb (aZ p,lN rs y.2.1) y.1) tb
def FA(rs:Yaa)(ns:KI)(p:aF)(tb:Tb):Tb:=putL rs p tb (ns.flatMap (cE (aI tb) rs p))
structure G0(rs:Yaa)(p:aF)(tb tb':Tb)(ys:List (Int×Nat×List Ky)):Prop where
 le:ua tb tb'
 out:∀k:Ky,k.1≠aZ p->aI tb' k=aI tb k
 all:∀y∈ys,∃v',v'<=y.1/\aI tb' (aZ p,lN rs y.2.1)=some v'
 val:∀k v,aI tb' k=some v->aI tb k=some v\/∃y∈ys,k=(aZ p,lN rs y.2.1)/\v=y.1
 len:tb'.length<=tb.length+ys.length
 nd:(tb.map (·.1)).Nodup->(tb'.map (·.1)).Nodup
theorem kT(rs:Yaa)(p:aF):∀(ys:List (Int×Nat×List Ky)) (tb:Tb),G0 rs p tb (putL rs p tb ys) ys
 | [],tb=>⟨ua.refl _,λ_ _=>rfl,(λy hy=>nomatch hy),λk v h=>.inl h,J8 _,id⟩
 |y::ys,tb=>by
  have ih:=kT rs p ys (dB tb (aZ p,lN rs y.2.1) y.1);have e:putL rs p tb (y::ys)=putL rs p (dB tb (aZ p,lN rs y.2.1) y.1) ys:=rfl;rw[e];refine⟨(vV _ _ _).trans ih.le,λk hk=>?_,λz hz=>?_,λk v h=>?_,?_,λnd=>ih.nd (AX nd)⟩
  ·rw[ih.out k hk,tR λq=>hk (by rw[q])]
  ·rcases J0.mp hz with rfl | hz
   ·obtain⟨v,l1,e1⟩:=xg tb (aZ p,lN rs z.2.1) z.1
    obtain⟨v',l2,e2⟩:=ih.le _ _ e1;exact⟨v',Int.le_trans l2 l1,e2⟩
   ·exact ih.all z hz
  ·rcases ih.val k v h with h | ⟨z,hz,e1,e2⟩
   ·rcases sV h with h | ⟨e1,e2⟩
    ·exact .inl h
    ·exact .inr ⟨y,List.mem_cons_self ..,e1,e2⟩
   ·exact .inr ⟨z,J1 _ hz,e1,e2⟩
  ·have h1:=ih.len
   have h2:=xD tb (aZ p,lN rs y.2.1) y.1;rw[JW]
   split at h2<;>omega
theorem qd{T:Ky->Option Int}{rs:Yaa}{p:aF}{ns:KI}{y:Int×Nat×List Ky}(h:y∈ns.flatMap (cE T rs p)):y.2.1∈ns/\∃r,rs[y.2.1]?=some r/\y.2.2∈a_ r p/\bP T r.2.c y.2.2=some y.1:=by
 obtain⟨n,hn,hy⟩:=List.mem_flatMap.mp h;unfold cE at hy;cases hr:rs[n]? with
 |none=>rw[hr]at hy;exact nomatch hy
 |some r=>
  rw[hr]at hy;unfold vE at hy;obtain⟨w,hw,e⟩:=List.mem_filterMap.mp hy;obtain⟨c,hc,rfl⟩:=Ka.mp e;exact⟨hn,r,hr,hw,hc⟩
theorem yw{T:Ky->Option Int}{rs:Yaa}{p:aF}{ns:KI}{n:Nat}{r:Nat×RV}{w:List Ky}{v:Int}(hn:n∈ns)(hr:rs[n]?=some r)(hw:w∈a_ r p)(hc:bP T r.2.c w=some v):(v,n,w)∈ns.flatMap (cE T rs p):=by
 refine List.mem_flatMap.mpr ⟨n,hn,?_⟩;unfold cE;rw[hr];exact List.mem_filterMap.mpr ⟨w,hw,by rw[hc];rfl⟩
theorem jz{T:Ky->Option Int}{rs:Yaa}{p:aF}{a c:Nat}(hp:iE p a c)(hg:∀r∈rs,r.1<4):∀ns:List Nat,(ns.flatMap (cE T rs p)).length<=6*ns.length
 | []=>J8 _
 |n::ns=>by
  have ih:=jz (T:=T) hp hg ns;rw[List.flatMap_cons,J7,JW];have:(cE T rs p n).length<=6:=by
   unfold cE;cases hr:rs[n]? with
   |none=>exact J9 _
   |some r=>exact Kd (List.length_filterMap_le _ _) (pX (hg r (JP hr)) hp)
  omega
def pta(rs:Yaa)(ns:KI)(q:aF)(tb:Tb):Nat->Tb
 |0=>tb
 |n+1=>FA rs ns (turned q n) (pta rs ns q tb n)
def eu(rs:Yaa):List Nat:=rs.zipIdx.filterMap λx=>if x.1.1=3 then none else some x.2
theorem kr{rs:Yaa}{n:Nat}:n∈eu rs↔∃r,rs[n]?=some r/\r.1≠3:=by
 unfold eu;rw[List.mem_filterMap]
 constructor
 ·rintro⟨⟨r,i⟩,hm,e⟩
  have hi:=List.mem_zipIdx_iff_getElem?.mp hm
  split at e
  ·cases e
  ·rename_i h
   injection e with e
   subst e;exact⟨r,hi,h⟩
 ·rintro⟨r,hr,h⟩
  exact⟨(r,n),List.mem_zipIdx_iff_getElem?.mpr hr,by rw[if_neg h]⟩
def nN(rs:Yaa):Yaa:=rs.filter λr=>decide (r.1=3)
structure Cb(rs:Yaa)(ns:KI)(q:aF)(tb0 tb:Tb)(n:Nat):Prop where
 le:ua tb0 tb
 out:∀k:Ky,(∀t,t<8->k.1≠aZ (turned q t))->aI tb k=aI tb0 k
 all:∀t,t<n->∀m∈ns,∀r,rs[m]?=some r->∀w∈a_ r (turned q t),∀v,bP (aI tb0) r.2.c w=some v->∃v',v'<=v/\aI tb (aZ (turned q t),r.2.n)=some v'
 val:∀k v,aI tb k=some v->aI tb0 k=some v\/∃t,t<8/\∃r∈rs,r.1≠3/\∃w∈a_ r (turned q t),bP (aI tb0) r.2.c w=some v/\k=(aZ (turned q t),r.2.n)
 len:tb.length<=tb0.length+6*ns.length*n
 nd:(tb0.map (·.1)).Nodup->(tb.map (·.1)).Nodup
theorem uU{rs:Yaa}{n:Nat}{r:Nat×RV}(h:rs[n]?=some r):lN rs n=r.2.n:=by unfold lN;rw[h]
theorem uJ{rs:Yaa}{q:aF}{tb0:Tb}{a c:Nat}(hg:∀r∈rs,r.1<4)(h6:∀t,t<8->∃a c,iE (turned q t) a c)
  (hK:∀t,t<8->∀r∈rs,r.1≠3->∀w∈a_ r (turned q t),∀k∈w,∀t',t'<8->k.1≠aZ (turned q t')):∀n,n<=8->Cb rs (eu rs) q tb0 (pta rs (eu rs) q tb0 n) n
 |0,_=>⟨ua.refl _,λ_ _=>rfl,λt ht=>absurd ht (Nat.not_lt_zero _),λk v h=>.inl h,by simp[pta],id⟩
 |n+1,hn=>by
  have ih:=uJ (tb0:=tb0) (a:=a) (c:=c) hg h6 hK n ⋯;have e:pta rs (eu rs) q tb0 (n+1)=FA rs (eu rs) (turned q n) (pta rs (eu rs) q tb0 n):=rfl;rw[e];generalize pta rs (eu rs) q tb0 n=tb at ih ⊢;unfold FA;have ps:=kT rs (turned q n) ((eu rs).flatMap (cE (aI tb) rs (turned q n))) tb;obtain⟨a',c',h6'⟩:=h6 n ⋯;have hl:=jz (T:=aI tb) h6' hg (eu rs);have same:∀{r:Nat×RV},r∈rs->r.1≠3->∀{w:List Ky},w∈a_ r (turned q n)->bP (aI tb) r.2.c w=bP (aI tb0) r.2.c w:=fun{r} hr h3 {w} hw=>iO λk hk=>ih.out k λt' ht'=>hK n ⋯ r hr h3 w hw k hk t' ht';refine⟨ih.le.trans ps.le,λk hk=>?_,λt ht m hm r hr w hw v hv=>?_,λk v h=>?_,?_,λnd=>ps.nd (ih.nd nd)⟩
  ·rw[ps.out k (hk n ⋯)];exact ih.out k hk
  ·by_cases et:t=n
   ·subst et
    obtain⟨r',hr',h3⟩:=kr.mp hm;rw[hr]at hr';cases hr'
    obtain⟨v',l',e'⟩:=ps.all _ (yw (v:=v) hm hr hw (by rw[same (JP hr) h3 hw];exact hv));rw[show lN rs m=r.2.n from uU hr]at e';exact⟨v',l',e'⟩
   ·obtain⟨v1,l1,e1⟩:=ih.all t ⋯ m hm r hr w hw v hv
    obtain⟨v2,l2,e2⟩:=ps.le _ _ e1;exact⟨v2,Int.le_trans l2 l1,e2⟩
  ·rcases ps.val k v h with h | ⟨y,hy,e1,e2⟩
   ·exact ih.val k v h
   ·obtain⟨h1,r,h2,h3,h4⟩:=qd hy
    obtain⟨r',hr',h5⟩:=kr.mp h1;rw[h2]at hr';cases hr'
    have hm:=JP h2;rw[uU h2]at e1;exact .inr ⟨n,⋯,r,hm,h5,_,h3,by rw[<- same hm h5 h3,h4,e2],e1⟩
  ·have h1:=ps.len
   have h2:=ih.len;rw[Nat.mul_add];omega
theorem gE{q:aF}{a c:Nat}(hq:rect q a c)(a0:0<a)(c0:0<c)(t:Nat):ba (turned q t)=ba q:=by
 have ht:=cV hq a0 c0 t;unfold ba;rw[ht.1,aU ht (by split<;>assumption),hq.1,aU hq a0]
 split
 ·rfl
 ·rw[Nat.mul_comm]
theorem CS{r:Nat×RV}{q:aF}{a c:Nat}(hq:rect q a c)(a0:0<a)(c0:0<c){k1 k2:Ky}(hw:[k1,k2]∈a_ r q):∃q1 q2,(∃t l b x,t<b/\b<=a/\l<x/\x<=c/\q1=cut q t l b x)/\(∃t l b x,t<b/\b<=a/\l<x/\x<=c/\q2=cut q t l b x)/\k1.1=aZ q1/\k2.1=aZ q2/\ba q1+ba q2=ba q:=by
 have cell:∀{t l b x:Nat},t<b->b<=a->l<x->x<=c->ba (cut q t l b x)=(b-t)*(x-l):=by
  intro t l b x h1 h2 h3 h4;have hc:=cn hq h1 h2 h3 h4;unfold ba;rw[hc.1,aU hc ⋯]
 have all:ba q=a*c:=by unfold ba;rw[hq.1,aU hq a0]
 unfold a_ at hw
 split at hw
 ·split at hw
  ·exact nomatch JN.mp hw
  ·exact nomatch hw
 ·obtain⟨k0,h0,e⟩:=Kt.mp hw
  unfold bv at h0;obtain⟨j,hj,rfl⟩:=Kt.mp h0;have hj:=List.mem_range.mp hj;rw[aU hq a0]at hj
  injection e with e1 e2
  injection e2 with e2 _
  subst e1;subst e2
  refine⟨_,_,⟨0,0,a,j+1,a0,J8 _,⋯,⋯,rfl⟩,⟨0,j+1,a,c,a0,J8 _,⋯,J8 _,rfl⟩,congrArg aZ (qf hq),congrArg aZ (qI hq),?_⟩;rw[cell a0 (J8 _) ⋯ ⋯,cell a0 (J8 _) ⋯ (J8 _),all,<- Nat.mul_add]
  congr 1;omega
 ·obtain⟨k0,h0,e⟩:=Kt.mp hw
  unfold bv at h0;obtain⟨j,hj,rfl⟩:=Kt.mp h0;have hj:=List.mem_range.mp hj;rw[hq.1]at hj
  injection e with e1 e2
  injection e2 with e2 _
  subst e1;subst e2
  refine⟨_,_,⟨0,0,j+1,c,⋯,⋯,c0,J8 _,rfl⟩,⟨j+1,0,a,c,⋯,J8 _,c0,J8 _,rfl⟩,congrArg aZ (qh hq),congrArg aZ (pZ hq),?_⟩;rw[cell ⋯ ⋯ c0 (J8 _),cell ⋯ (J8 _) c0 (J8 _),all,<- Nat.add_mul]
  congr 1;omega
 ·exact nomatch JN.mp hw
structure ES(rs:Yaa)(nms:List (List Nat))(p:aF)(r c:Nat)(dn:KQ)(tb:Tb):Prop where
 nd:(tb.map (·.1)).Nodup
 key:∀k v,aI tb k=some v->tx k.1∈dn/\k.2∈nms/\Dv rs k v/\1<=v
 bnd:∀k v,aI tb k=some v->∀q,bc p r c q->k.1=aZ q->v+585<=1170*(ba q:Int)
 don:∀z∈dn,∃q,bc p r c q/\z=tx (aZ q)
 tur:∀q,bc p r c q->tx (aZ q)∈dn->∀t,t<8->tx (aZ (turned q t))∈dn
 prt:∀q,bc p r c q->tx (aZ q)∈dn->∀x∈rs,∀w∈a_ x q,∀k∈w,tx k.1∈dn
 clo:∀q,bc p r c q->tx (aZ q)∈dn->GM rs (aI tb) q
structure kq(rs:Yaa)(nms:List (List Nat))(p:aF)(r c:Nat):Prop where
 hp:rect p r c
 r0:0<r
 c0:0<c
 r6:r<=6
 c6:c<=6
 ns:bF p
 gd:∀x∈rs,pP x
 nm:∀x∈rs,x.2.n∈nms
 n8:nms.length<=8
 r24:rs.length<=24
theorem kq.turn3{rs:Yaa}{nms:List (List Nat)}{p:aF}{r c:Nat}(E:kq rs nms p r c){x:Nat×RV}(h:x∈nN rs):GC rs nms x:=by
 obtain⟨h1,h2⟩:=List.mem_filter.mp h;have h3:x.1=3:=by simpa using h2
 have g:=(E.gd x h1).good;exact⟨h1,⋯,g.c1,g.c9,g.t0,g.t7,E.nm x h1⟩
structure rW(rs:Yaa)(p:aF)(r c:Nat)(dn:KQ)(q:aF):Prop where
 sq:bc p r c q
 fr:∀t,t<8->tx (aZ (turned q t))∉dn
 pt:∀q',bc p r c q'->ba q'<ba q->tx (aZ q')∈dn
theorem rW.parts{rs:Yaa}{nms:List (List Nat)}{p:aF}{r c:Nat}{dn:KQ}{q:aF}(E:kq rs nms p r c)(N:rW rs p r c dn q){t:Nat}(ht:t<8){x:Nat×RV}(hx:x∈rs)(h3:x.1≠3){w:List Ky}(hw:w∈a_ x (turned q t)){k:Ky}(hk:k∈w):∃q',bc p r c q'/\k.1=aZ q'/\tx k.1∈dn:=by
 have g:=E.gd x hx;obtain⟨a,b,h1,h2,h4,_⟩:=N.sq.rect E.hp;obtain⟨q',s',e',h⟩:=kl E.hp (N.sq.turned E.hp ht) g.good.t0 g.good.t7 hw hk;rcases h with h | h
 ·rw[gE h1 h2 h4]at h
  exact⟨q',s',e',by rw[e'];exact N.pt q' s' h⟩
 ·have:=g.k4
  omega
theorem rW.notIn{rs:Yaa}{nms:List (List Nat)}{p:aF}{r c:Nat}{dn:KQ}{q:aF}(N:rW rs p r c dn q){k:Ky}(h:tx k.1∈dn){t:Nat}(ht:t<8):k.1≠aZ (turned q t):=λe=>N.fr t ht (by rw[<- e];exact h)
theorem sh{p q:aF}{r c:Nat}(hp:rect p r c)(r6:r<=6)(c6:c<=6)(h:bc p r c q):∃a b,iE q a b:=by
 obtain⟨a,b,h1,h2,h3,h4,h5⟩:=h.rect hp;exact⟨a,b,h1,h2,⋯,h3,⋯⟩
theorem ES.pta{rs:Yaa}{nms:List (List Nat)}{p:aF}{r c:Nat}{dn:KQ}{q:aF}{tb:Tb}(E:kq rs nms p r c)(N:rW rs p r c dn q)(S:ES rs nms p r c dn tb):∀n,n<=8->Cb rs (eu rs) q tb (pta rs (eu rs) q tb n) n:=
 uJ (a:=0) (c:=0) (λx hx=>(E.gd x hx).k4) (λt ht=>sh E.hp E.r6 E.c6 (N.sq.turned E.hp ht)) λt ht x hx h3 w hw k hk t' ht'=>by
  obtain⟨_,_,_,h⟩:=N.parts E ht hx h3 hw hk;exact N.notIn (nms:=nms) h ht'
theorem qg{p q:aF}{r c:Nat}(hp:rect p r c)(h:bc p r c q):1<=ba q:=by
 obtain⟨a,b,h1,h2,h3,_⟩:=h.rect hp;unfold ba;rw[h1.1,aU h1 h2];exact Nat.mul_pos h2 h3
theorem ES.start{rs:Yaa}{nms:List (List Nat)}{p:aF}{r c:Nat}{dn:KQ}{q:aF}{tb tb8:Tb}(E:kq rs nms p r c)(N:rW rs p r c dn q)(S:ES rs nms p r c dn tb)(PS:Cb rs (eu rs) q tb tb8 8) :
  TI (nN rs) rs q nms (1170*ba q-1161) tb8.length tb8 tb8 (λk=>k∈CK q nms/\∃v,aI tb8 k=some v):=by
 have hcp:=qg E.hp N.sq;have new:∀k∈CK q nms,∀v,aI tb8 k=some v->Dv rs k v/\1<=v/\v<=((1170*ba q-1161:Nat):Int):=by
  intro k hk v hv;rcases PS.val k v hv with h | ⟨t,ht,x,hx,h3,w,hw,hc,rfl⟩
  ·obtain⟨t,ht,n,_,rfl⟩:=jS.mp hk
   exact absurd (S.key _ v h).1 (N.fr t ht)
  ·have g:=(E.gd x hx).good
   have hst:=N.sq.turned E.hp ht;have g1:=g.c1;have g9:=g.c9;refine⟨CU hx (dY E.hp E.ns hst) hw hc λk hk u hu=>(S.key k u hu).2.2.1,?_⟩;rcases p6 hw with rfl | ⟨k,rfl⟩ | ⟨k1,k2,rfl⟩
   ·injection hc with hc
    omega
   ·obtain⟨a,b,h1,h2,h4,_⟩:=hst.rect E.hp
    rcases qw h1 h2 h4 hw (JN.mpr rfl) with⟨t,l,b,y,k1,k2,k3,k4,k5,k6,k7⟩ | ⟨k1,_⟩
    ·exfalso
     unfold a_ at hw
     split at hw
     ·split at hw
      ·exact nomatch JN.mp hw
      ·exact nomatch hw
     ·obtain⟨_,_,e⟩:=Kt.mp hw;exact nomatch e
     ·obtain⟨_,_,e⟩:=Kt.mp hw;exact nomatch e
     ·rename_i y z0 z1 z2
      rcases hh:x.1 with _ | _ | _ | n
      ·exact absurd hh z0
      ·exact absurd hh z1
      ·exact absurd hh z2
      ·omega
    ·have:=(E.gd x hx).k4
     omega
   ·obtain⟨u1,u2,e1,e2,rfl⟩:=uf hc
    obtain⟨a,b,h1,h2,h4,_⟩:=hst.rect E.hp;obtain⟨q1,q2,⟨t1,l1,b1,x1,m1,m2,m3,m4,rfl⟩,⟨t2,l2,b2,x2,n1,n2,n3,n4,rfl⟩,f1,f2,f3⟩:=CS h1 h2 h4 hw;rw[gE (N.sq.rect E.hp).choose_spec.choose_spec.1 (N.sq.rect E.hp).choose_spec.choose_spec.2.1 (N.sq.rect E.hp).choose_spec.choose_spec.2.2.1]at f3;have o1:=S.bnd k1 u1 e1 _ (hst.cut E.hp h1 m1 m2 m3 m4) f1;have o2:=S.bnd k2 u2 e2 _ (hst.cut E.hp h1 n1 n2 n3 n4) f2;have p1:=(S.key k1 u1 e1).2.2.2;have p2:=(S.key k2 u2 e2).2.2.2;omega
 refine⟨PS.nd S.nd,ua.refl _,λ_ _=>rfl,λk hk v hv=>(new k hk v hv).1,λk hk v hv no=>absurd ⟨hk,v,hv⟩ no,λk ho=>ho,λk hk v hv=>?_,Nat.le_add_right _ _⟩;have:=new k hk v hv;exact⟨this.2.1,⋯⟩
theorem ES.enter{rs:Yaa}{nms:List (List Nat)}{p:aF}{r c:Nat}{dn dn':KQ}{q:aF}{tb tb8 tb':Tb}(E:kq rs nms p r c)(N:rW rs p r c dn q)(S:ES rs nms p r c dn tb)(PS:Cb rs (eu rs) q tb tb8 8)
  (h:TI (nN rs) rs q nms (1170*ba q-1161) tb8.length tb8 tb' (λ_=>False)) (hd:∀z,z∈dn'↔z∈dn\/∃t,t<8/\z=tx (aZ (turned q t))):ES rs nms p r c dn' tb':=by
 have hcp:=qg E.hp N.sq;obtain⟨a0,b0,hr1,hr2,hr3,_⟩:=N.sq.rect E.hp;have okT:∀t,t<8->zG (turned q t):=λt ht=>dY E.hp E.ns (N.sq.turned E.hp ht);have ck:∀k,k∉CK q nms->∀v,aI tb' k=some v->aI tb k=some v:=λk hk v hv=>by
  rw[h.out k hk]at hv;rcases PS.val k v hv with e | ⟨t,ht,x,hx,_,w,_,_,rfl⟩
  ·exact e
  ·exact absurd (jS.mpr ⟨t,ht,_,E.nm x hx,rfl⟩) hk
 have old:∀k:Ky,tx k.1∈dn->aI tb' k=aI tb k:=λk hk=>by
  have nc:∀t,t<8->k.1≠aZ (turned q t):=λt ht=>N.notIn (nms:=nms) hk ht;rw[h.out k λe=>by obtain⟨t,ht,n,_,rfl⟩:=jS.mp e;exact nc t ht rfl,PS.out k nc]
 have h64:=gG (CK q nms) tb';have hl:=rQ q nms;have n8:=E.n8;have yaW:∀{q':aF},bc p r c q'->tx (aZ q')∈dn'->tx (aZ q')∈dn\/∃t,t<8/\q'=turned q t:=fun{q'} hs hz=>by
  rcases(hd _).mp hz with h | ⟨t,ht,e⟩
  ·exact .inl h
  ·exact .inr ⟨t,ht,(dY E.hp E.ns hs).inj (okT t ht) (d8 e)⟩
 refine⟨h.nd,λk v hv=>?_,λk v hv q' hs e=>?_,λz hz=>?_,λq' hs hz t ht=>?_,λq' hs hz x hx w hw k hk=>?_,λq' hs hz x hx w hw v hv=>?_⟩
 ·by_cases hk:k∈CK q nms
  ·obtain⟨t,ht,n,hn,rfl⟩:=jS.mp hk
   exact⟨(hd _).mpr (.inr ⟨t,ht,rfl⟩),hn,h.snd _ hk v hv,(h.pos _ hk v hv).1⟩
  ·obtain⟨k1,k2⟩:=S.key k v (ck k hk v hv)
   exact⟨(hd _).mpr (.inl k1),k2⟩
 ·by_cases hk:k∈CK q nms
  ·have:=(h.pos _ hk v hv).2
   obtain⟨t,ht,n,hn,rfl⟩:=jS.mp hk;have e':=(okT t ht).inj (dY E.hp E.ns hs) e;rw[<- e',gE hr1 hr2 hr3];omega
  ·exact S.bnd k v (ck k hk v hv) q' hs e
 ·rcases(hd z).mp hz with h1 | ⟨t,ht,rfl⟩
  ·exact S.don z h1
  ·exact⟨_,N.sq.turned E.hp ht,rfl⟩
 ·rcases yaW hs hz with h1 | ⟨u,hu,rfl⟩
  ·exact(hd _).mpr (.inl (S.tur q' hs h1 t ht))
  ·exact(hd _).mpr (.inr ⟨after u t,gi hu ht,by rw[bC hr1 hr2 hr3 hu ht]⟩)
 ·rcases yaW hs hz with h1 | ⟨u,hu,rfl⟩
  ·exact(hd _).mpr (.inl (S.prt q' hs h1 x hx w hw k hk))
  ·have g:=(E.gd x hx).good
   by_cases h3:x.1=3
   ·rw[lJ ⋯]at hw
    rw[JN.mp hw]at hk;rw[JN.mp hk];have hb:dA x.2.t.toNat<8:=kn (by have:=g.t0;have:=g.t7;omega);exact(hd _).mpr (.inr ⟨after u (dA x.2.t.toNat),gi hu hb,by rw[bC hr1 hr2 hr3 hu hb]⟩)
   ·obtain⟨_,_,_,h5⟩:=N.parts E hu hx h3 hw hk
    exact(hd _).mpr (.inl h5)
 ·rcases yaW hs hz with h1 | ⟨u,hu,rfl⟩
  ·rw[iO (T':=aI tb) λk hk=>old k (S.prt q' hs h1 x hx w hw k hk)]at hv
   rw[old (aZ q',x.2.n) h1];exact S.clo q' hs h1 x hx w hw v hv
  ·have g:=(E.gd x hx).good
   by_cases h3:x.1=3
   ·have hu8:x.2.t.toNat<8:=by have:=g.t0;have:=g.t7;omega
    have hb:dA x.2.t.toNat<8:=kn hu8;rw[lJ ⋯]at hw;rw[JN.mp hw]at hv;obtain⟨a,ha,rfl⟩:=oH hv;have ha8:=gi hu hb;have hqt:=cV hr1 hr2 hr3 u;have et:turned (turned q u) (dA x.2.t.toNat)=turned q (after u (dA x.2.t.toNat)):=bC hr1 hr2 hr3 hu hb;rw[et]at ha
    by_cases hk:(aZ (turned q (after u (dA x.2.t.toNat))),x.2.o1)∈CK q nms
    ·obtain⟨v',l',e'⟩:=h.sett _ hk a ha id x (List.mem_filter.mpr ⟨hx,by simpa using h3⟩) rfl _ ha8 rfl
     refine⟨v',⋯,?_⟩;have e2:turned q (after (after u (dA x.2.t.toNat)) x.2.t.toNat)=turned q u:=by
      rw[<- bC hr1 hr2 hr3 ha8 hu8,<- et,bC hqt (by split<;>assumption) (by split<;>assumption) hb hu8,vw hu8,lT]
     unfold gv at e';rw[e2]at e';exact e'
    ·exact absurd (S.key _ a (ck _ hk a ha)).1 (N.fr _ ha8)
   ·have hc:bP (aI tb) x.2.c w=some v:=by
     rw[<- hv];exact iO λk hk=>by
      obtain⟨_,_,_,h5⟩:=N.parts E hu hx h3 hw hk;exact(old k h5).symm
    obtain⟨m,hm⟩:=List.mem_iff_getElem?.mp hx;obtain⟨v1,l1,e1⟩:=PS.all u hu m (kr.mpr ⟨x,hm,h3⟩) x hm w hw v hc;obtain⟨v2,l2,e2⟩:=h.le _ _ e1;exact⟨v2,Int.le_trans l2 l1,e2⟩
abbrev sM:Stmt:=gW 56
inductive oj(vs:List V)(H:Hp)(Q:VK)(_E:XK):Prop
 |mk (d b:Addr) (tb:Tb) (k:Ky) (v:Int) (_:vs=[.ref d,.ref b,.int v]) (_:bT H d tb) (_:aT H b k) (_:tb.length<sizeLine) (_:∀H',bT H' d (dB tb k v)->aN d H H'->Q (.bl (gB tb k v)) H')
theorem Bi:aB ["told","key","cost"] ["told","key","cost"] (ak sM):=by walk_at "c"
theorem B1{f:Addr}{fd:KO}(F:dw K "lower" "lower" sM f fd)(nb:NB mg):aR P w K mg base bB 1 f fd ["told","key","cost"] oj:=by
 have sc:=Bi;walk_at "f"
 ·obtain⟨d,b,tb,k,v,rfl,_⟩:=h;rfl
 ·obtain⟨d,b,tb,k,v,rfl,hd,hb,hl,q⟩:=h
  have hg:=hd.told.get hb;have hu:=hr.units;have fin:gB tb k v=true->∀H2,H2=aC H d (.dT (di (tb.map qX) (jA k) (.int v)))->Q (.bl true) H2:=λhlb H2 e=>by
   have e1:dB tb k v=ph tb k v:=by unfold dB;rw[if_pos hlb]
   have:=q H2 (by rw[e1,e,A4];exact ae) (by rw[e];exact(aN.of λ_ _ h=>h).put)
   rwa [hlb]at this
  have hput:vL H d (.ref b) (.int v) (aC H d (.dT (di (tb.map qX) (jA k) (.int v)))):=vL.t hd hb (by rw[JM];exact hl);refine⟨_,(af (ce (PW.pt (wQ (nB (Af (Kq (Kv (by decide:1<=64) _) hu) (al 1) (al 0)) (by with_unfolding_all rfl)) (qR (br (bx.m0 uQ) (iX (Kq (Kv (by decide:1<=64) _) hu) (al 0) (al 1) (λ_ _=>rfl)) (al 2) (bO _)))))
   (ag (aJ md))
   bu)
   (af (m7 (Kq (Kv (by decide:1<=64) _) hu) (al 0) (al 1) (al 2) rfl)
   (ag (aJ md)))),?_⟩
  walk_at "n";refine⟨_,hg,?_⟩;cases hk:aI tb k with
  |none=>
   rw[if_neg (by simp)];refine h1 _ _ ?_;walk_at "wp";exact⟨_,hput,fin (by unfold gB;rw[hk]) _ rfl⟩
  |some u=>
   rw[hk]at hg;rw[if_pos (by rfl)];refine⟨_,hg,u,rfl,?_⟩
   by_cases huv:u<=v
   ·rw[if_pos huv]
    have hlb:gB tb k v=false:=by unfold gB;rw[hk];simp;omega
    have:=q H (by unfold dB;rw[hlb];exact hd) (aN.of λ_ _ h=>h)
    rwa [hlb]at this
   ·rw[if_neg huv]
    refine h1 _ _ ?_;walk_at "wp";exact⟨_,hput,fin (by unfold gB;rw[hk];simp;omega) _ rfl⟩
abbrev fk:Stmt:=gW 55
inductive g7(R:RC)(CG CC:Addr)(vs:List V)(H:Hp)(Q:VK)(_E:XK):Prop
 |mk (g dx ln cu d:Addr) (sg st:KI) (as:KM) (rs:Yaa) (ns:KI) (p:aF) (r c:Nat) (tb:Tb) (_:vs=[.ref g,.ref ln,.ref cu,.ref d]) (_:cO R H CG dx g sg st as rs) (_:(∀r∈rs,pP r)) (_:H ln=some (.lst (vp ns))) (_:(∀n∈ns,n<rs.length)) (_:ns.length<=100) (_:d_ CC H cu p) (_:iE p r c) (_:bT H d tb) (_:tb.length<=10000000) (_:∀H',bT H' d (FA rs ns p tb)->aN d H H'->Q .non H')
theorem mD:aB ["grammar","numbers","cuts","told","cost","number","way"] ["grammar","numbers","cuts","told"] (ak fk):=by walk_at "c"
theorem my{R:RC}{f CG CC:Addr}{fd:KO}(F:dw K "put_together" "put_together" fk f fd)(nb:NB mg)(rk:lB K R)(clC:iQ K CC)(naC:DS K CC)(yag:ig P w K mg base bB 1 CG "rule" ["self","k"] (eO R CG))(yaX:dL P w K mg base bB 6 "coming" ["grammar","numbers","cuts","told"] (pS R CG CC))(yal:dL P w K mg base bB 1 "lower" ["told","key","cost"] oj):aR P w K mg base bB 7 f fd ["grammar","numbers","cuts","told"] (g7 R CG CC):=by
 have sc:=mD;walk_at "f"
 ·obtain⟨g,dx,ln,cu,d,sg,st,as,rs,ns,p,r,c,tb,rfl,_⟩:=h;rfl
 ·obtain⟨g,dx,ln,cu,d,sg,st,as,rs,ns,p,r,c,tb,rfl,hG,hg,hln,hns,hn100,hC,hp,hT,htl,q⟩:=h
  have hu:=hr.units;refine⟨_,(ag (bj PassesOwn.never rfl (bD (aE yaX (hr.mono nofun) rfl aM (ac (al 0) (ac (al 1) (ac (al 2) (ac (al 3) ad)))))) (jE (n:=3) rfl (aS (aA (i:=4) sc.nd rfl (Or.inl rfl)) (aS (aA (i:=5) sc.nd rfl (Or.inl rfl)) (aS (aA (i:=6) sc.nd rfl (Or.inl rfl)) dU))))
   (ag (bw (aE yal (hr.mono nofun) rfl aM (ac (al 3) (ac (bJ (ac (bK (al 2) rfl) (ac (bK (mL yag (hr.mono nofun) aM (al 0) (ac (al 5) ad)) rfl) ad))) (ac (al 4) ad)))))))),?_⟩
  walk_at "wp";refine⟨g,dx,ln,cu,d,sg,st,as,rs,ns,p,r,c,aI tb,rfl,hG,hg,hln,hns,hn100,hC,hp,hT.told,λl H1 hl hL s1=>?_⟩;obtain⟨bs,hb,hA⟩:=hL;have hT1:bT H1 d tb:=hT.up s1;have hG1:=hG.up s1;have hC1:=hC.up s1;have hyl:=jz (T:=aI tb) hp (λr hr=>(hg r hr).k4) ns;have hym:∀y∈ns.flatMap (cE (aI tb) rs p),y.2.1∈ns:=λy hy=>(qd hy).1;have hpt:FA rs ns p tb=putL rs p tb (ns.flatMap (cE (aI tb) rs p)):=rfl;rw[hpt]at q;generalize ns.flatMap (cE (aI tb) rs p)=ys at hA hyl hym q;have hbl:=hA.1;refine⟨l,rfl,⟨_,aQ.of hb⟩,?_⟩;refine bZ (xs:=bs.map V.ref) (λi σ H'=>aN d H1 H'/\bT H' d (putL rs p tb (ys.take i))/\i<=bs.length/\∃x1 x2 x3,σ=[some (V.ref g),some (V.ref ln),some (V.ref cu),some (V.ref d),x1,x2,x3]) ⟨aN.of λ_ _ h=>h,hT1,J9 _,_,_,_,rfl⟩ (λi σ H' _ h=>aQ.of ((h.1.kp hT1).lst hb)) ?_ ?_
  ·rintro i x σ H' hx ⟨sx,hT',_,x1,x2,x3,rfl⟩
   rw[JO]at hx;obtain⟨b,hbi,rfl⟩:=Ka.mp hx;have hi:=(JK.mp hbi).1;obtain⟨y,hy,hyb⟩:=hA.get hbi;have kp:=sx.kp hT1;obtain⟨lw,hb1,_⟩:=hyb.kp kp;obtain⟨q0,hq0⟩:∃q0,rs[y.2.1]?=some q0:=⟨_,JJ (hns _ (hym y (JP hy)))⟩;have hG':=hG1.kp kp;obtain⟨dxc,lp,lb,la,hc0,_⟩:=hC1.kp kp;obtain⟨lk,pn,t0,ha,hkk,hrs,hN,hmm⟩:=id hG';obtain⟨ra,hra⟩:∃b,as[y.2.1]?=some b:=⟨_,JJ (by rw[hrs.1];exact(JK.mp hq0).1)⟩;obtain⟨rdx,rl,hrb,_⟩:=hrs.2 _ ra q0 hra hq0;walk_at "wp";refine⟨_,jv.of hb1,rfl,_,_,rfl,_,_,rfl,_,_,rfl,rfl,?_⟩;refine⟨_,_,_,hc0,clC,naC.2.1,_,rfl,dx,_,ha,rfl,g,dx,sg,st,as,rs,y.2.1,ra,rfl,hG',hra,?_⟩;refine⟨ra,rfl,_,_,_,hrb,(rk.icls q0.1).cl,(rk.name q0.1).1,_,(iU rl q0.2 q0.1).1,au nofun,λtp htp=>?_⟩;have hps:=(kT rs p (ys.take i) tb).len;have htk:(ys.take i).length<=ys.length:=by rw[Kk];omega
   refine⟨d,tp,putL rs p tb (ys.take i),(aZ p,q0.2.n),y.1,rfl,hT'.up (aj htp),ae,?_,λH2 ht2 sx2=>⟨sx.trans ((aN.of (aj htp)).trans sx2),?_,hi⟩⟩
   ·have:=sizeLine_eq;omega
   ·have e:putL rs p tb (ys.take (i+1))=dB (putL rs p tb (ys.take i)) (aZ p,q0.2.n) y.1:=by
     unfold putL;rw[List.take_add_one,hy,List.foldl_append];show dB _ (aZ p,lN rs y.2.1) y.1=_;rw[show lN rs y.2.1=q0.2.n by unfold lN;rw[hq0]]
    rw[e];exact ht2
  ·rintro σ H' ⟨sx,hT',_,x1,x2,x3,rfl⟩
   rw[JM,hbl,Kj]at hT';exact q H' hT' ((aN.of s1).trans sx)
abbrev sQ:Stmt:=gW 21
inductive vj(vs:List V)(H:Hp)(Q:VK)(_E:XK):Prop
 |mk (t u:Nat) (_:vs=[.int (t:Int),.int (u:Int)]) (_:t<8) (_:u<8) (_:Q (.int (after t u:Nat)) H)
theorem BS:aB ["t","u"] ["t","u"] (ak sQ):=by walk_at "c"
theorem zT{f:Addr}{fd:KO}(F:dw K "after" "after" sQ f fd):aR P w K mg base bB 1 f fd ["t","u"] vj:=by
 have sc:=BS;walk_at "f"
 ·obtain⟨t,u,rfl,_⟩:=h;rfl
 ·obtain⟨t,u,rfl,ht,hu,q⟩:=h
  refine⟨_,(af (ce (br uk (pv 1) am (bO _))
   (ag (aJ (az bi (az cK (az cj (pv 0) am) am) (az bG (az bi (pv 0) (pv 1)) am))))
   bu)
   (ag (aJ (az bi (az cK (az jI am (az cj (pv 0) am)) am) (az bG (az jI (pv 1) (pv 0)) am))))),?_⟩
  walk_at "wp"
  split
  ·have e:((after t u:Nat):Int)=(t:Int)/4*4+((t:Int)+u)%4:=by unfold after;rw[if_pos ⋯];omega
   rw[<- e];exact q
  ·have e:((after t u:Nat):Int)=(1-(t:Int)/4)*4+((u:Int)-t)%4:=by unfold after;rw[if_neg ⋯];omega
   rw[<- e];exact q
theorem aK.app{β:Type}{A:Hp->Addr->β->Prop}{H:Hp}:∀{bs2:KM} {ys2:List β} {bs:KM} {ys:List β},aK A H bs ys->aK A H bs2 ys2->aK A H (bs++bs2) (ys++ys2)
 | [],[],bs,ys,h,_=>by rw[Kg,Kg];exact h
 | [],_::_,_,_,_,h2=>nomatch h2.1
 |_::_,[],_,_,_,h2=>nomatch h2.1
 |b::bs2,y::ys2,bs,ys,h,h2=>by
  have h3:aK A H bs2 ys2:=⟨Nat.succ.inj h2.1,λi c z e1 e2=>h2.2 (i+1) c z e1 e2⟩;have:=aK.app (h.snoc (h2.2 0 b y rfl rfl)) h3
  rwa [Kh,Kh]at this
theorem zJ{H:Hp}{a b:Addr}{xs:List V}{Q:VK}{neg:Bool}(ha:H a=some (.lst xs))(hb:H b=some (.lst []))(q:Q (.bl (xs.isEmpty != neg)) H):EQ K neg (.ref a) (.ref b) H Q:=by
 cases xs with
 |nil=>
  refine .inl ⟨[],by unfold Dt.deps;omega,.inl ⟨?_,?_⟩,by simpa using q⟩
  ·unfold mT;exact⟨a,_,rfl,aQ.of ha,by unfold gQ;rfl⟩
  ·unfold mT;exact⟨b,_,rfl,aQ.of hb,by unfold gQ;rfl⟩
 |cons x xs=>exact .inr ⟨a,b,_,_,rfl,rfl,aQ.of ha,aQ.of hb,by simp,by simpa using q⟩
def eX(q:aF):List Str:=(List.range 8).map λt=>tx (aZ (turned q t))
def jt(q:aF)(ns:List (List Nat))(tb:Tb)(n:Nat):List Ky:=((List.range n).flatMap λt=>ns.map λn=>(aZ (turned q t),n)).filter λk=>(aI tb k).isSome
theorem oQ(q:aF)(ns:List (List Nat))(tb:Tb)(n:Nat):jt q ns tb (n+1)=jt q ns tb n++ns.filterMap λm=>if(aI tb (aZ (turned q n),m)).isSome=true then some (aZ (turned q n),m) else none:=by
 unfold jt;rw[List.range_succ,List.flatMap_append,List.filter_append]
 congr 1
 rw[show([n].flatMap λt=>ns.map λn=>(aZ (turned q t),n))=ns.map λm=>(aZ (turned q n),m) by simp]
 induction ns with
 |nil=>rfl
 |cons m ns ih=>
  rw[Kc,List.filter_cons,List.filterMap_cons];cases h:(aI tb (aZ (turned q n),m)).isSome with
  |true=>simp only[if_pos];rw[ih]
  |false=>simp only[Bool.false_eq_true,if_false];exact ih
theorem li(q:aF)(ns:List (List Nat))(tb:Tb):∀n,(jt q ns tb n).length<=n*ns.length
 |0=>by simp[jt]
 |n+1=>by
  rw[oQ,J7,Nat.add_mul,Nat.one_mul];exact Nat.add_le_add (li q ns tb n) (List.length_filterMap_le _ _)
theorem qa{q:aF}{ns:List (List Nat)}{tb:Tb}{k:Ky}:k∈jt q ns tb 8↔k∈CK q ns/\∃v,aI tb k=some v:=by
 unfold jt;rw[List.mem_filter,Option.isSome_iff_exists];rfl
theorem uC{z:Str}:∀{ts:KQ},z∈ts->∃j:Nat,ts[j]?=some z/\∀(m:Nat) (y:Str),m<j->ts[m]?=some y->y≠z
 | [],h=>nomatch h
 |x::ts,h=>by
  by_cases e:x=z
  ·exact⟨0,by rw[e];rfl,λm y hm=>absurd hm (Nat.not_lt_zero _)⟩
  ·rcases J0.mp h with h | h
   ·exact absurd h.symm e
   ·obtain⟨j,h1,h2⟩:=uC h
    refine⟨j+1,h1,λm y hm hy=>?_⟩;cases m with
    |zero=>rw[List.getElem?_cons_zero]at hy;cases hy;exact e
    |succ m=>exact h2 m y ⋯ hy
theorem D3{q:aF}{t:Nat}{z:Str}(h:(eX q)[t]?=some z):t<8/\z=tx (aZ (turned q t)):=by
 unfold eX at h;rw[JO]at h;obtain⟨x,hx,rfl⟩:=Ka.mp h;have h8:=(JK.mp hx).1;rw[List.length_range]at h8;rw[List.getElem?_range h8]at hx;cases hx;exact⟨h8,rfl⟩
theorem Bc{q:aF}{t:Nat}(h:t<8):(eX q)[t]?=some (tx (aZ (turned q t))):=by
 unfold eX;rw[JO,List.getElem?_range h];rfl
abbrev gK:Stmt:=gW 57
theorem u6{c:TT}{tb:TS}{D:il}{σ:St}{H:Hp}(h:∀tb',tb'=tb->vQ c tb' D σ H):vQ c tb D σ H:=h tb rfl
theorem yN{n:Nat}(h:n<=8000000):n<sizeLine:=by have:=sizeLine_eq;omega
inductive jx(R:RC)(vs:List V)(H:Hp)(Q:VK)(_E:XK):Prop
 |mk (lr lt ln d:Addr) (as:KM) (trs rs:Yaa) (q:aF) (a c:Nat) (ns:List (List Nat)) (M L0:Nat) (tb0:Tb) (_:vs=[.ref lr,.ref lt,.ref ln,.ref d]) (_:H lr=some (.lst (as.map V.ref))) (_:bg R H as trs) (_:H lt=some (.lst ((eX q).map V.str))) (_:H ln=some (.lst (ns.map λn=>V.str (tx n)))) (_:bT H d tb0) (_:rect q a c) (_:0<a) (_:0<c) (_:(∀t,t<8->zG (turned q t))) (_:ns.length<=8) (_:(∀r∈trs,GC rs ns r/\r.1=3)) (_:TI trs rs q ns M L0 tb0 tb0 (λk=>k∈CK q ns/\∃v,aI tb0 k=some v)) (_:M<=100000) (_:L0<=10000000) (_:∀H' tb',bT H' d tb'->TI trs rs q ns M L0 tb0 tb' (λ_=>False)->aN d H H'->Q .non H')
theorem pf:aB ["rules","texts","names","told","changed","text","lowered","name","rule","key"] ["rules","texts","names","told"] (ak gK):=by walk_at "c"
theorem pK{R:RC}{f:Addr}{fd:KO}(F:dw K "turn_about" "turn_about" gK f fd)(nb:NB mg)(rk:lB K R)(yaB:dL P w K mg base bB 1 "after" ["t","u"] vj)(yal:dL P w K mg base bB 1 "lower" ["told","key","cost"] oj):aR P w K mg base bB 2 f fd ["rules","texts","names","told"] (jx R):=by
 have sc:=pf;walk_at "f"
 ·obtain⟨lr,lt,ln,d,as,trs,rs,q,a,c,ns,M,L0,tb0,rfl,_⟩:=h;rfl
 ·obtain⟨lr,lt,ln,d,as,trs,rs,q,a,c,ns,M,L0,tb0,rfl,hlr,hrs,hlt,hln,hT,hq,a0,c0,hO,h8,hR,hTI,hM,hL0,qq⟩:=h
  have hu:=hr.units;refine⟨_,(af (aH (i:=4) sc.nd rfl (Or.inl rfl) (bE ad))
   (af (bj PassesOwn.never rfl (bD (al 1)) (aA (i:=5) sc.nd rfl (Or.inr rfl))
   (ag (bw (eC PySem.F.plainAttrs_list PySem.F.slot_list_extend PySem.F.type_list_extend zA (al 4) (ac (c5 ["name"] [5,3] rfl (bH.of (by kernel_rfl)) (by kernel_rfl) (bD (al 2))
    (λ_ _ _ _=>(aA (i:=0) (by show(["name","text","told"]:List Str).Nodup;decide +kernel) rfl (Or.inl rfl))) (λ_ _ _ _=>(tL (nB (Af (Kq (Kv (by decide:1<=64) _) hu) (bJ (ac (al 1) (ac (al 0) ad))) (al 2)) (by with_unfolding_all rfl)))) (λ_ _ _ _=>(bJ (ac (al 1) (ac (al 0) ad))))) ad)))))
   (ag (AQ PassesOwn.never (br (Eb hu) (al 4) (bE ad) (bO _)) (af (aH (i:=6) sc.nd rfl (Or.inl rfl) (bE ad))
   (af (bj PassesOwn.never rfl (bD (al 4)) (jE (n:=2) rfl (aS (aA (i:=5) sc.nd rfl (Or.inr rfl)) (aS (aA (i:=7) sc.nd rfl (Or.inl rfl)) dU)))
   (ag (bj PassesOwn.never rfl (bD (al 0)) (aA (i:=8) sc.nd rfl (Or.inl rfl))
   (af (aH (i:=9) sc.nd rfl (Or.inl rfl) (bJ (ac (cR cW (al 1) (aE yaB (hr.mono nofun) rfl aM (ac (eC PySem.F.plainAttrs_list PySem.F.slot_list_index PySem.F.type_list_index zB (al 1) (ac (al 5) ad)) (ac (bK (al 8) rfl) ad))) (λ_ _=>rfl)) (ac (bK (al 8) rfl) ad))))
   (ag (ce (PW.pt (wQ (br jZ (bK (al 8) rfl) (al 7) (bO _)) (qR (jr (aE yal (hr.mono nofun) rfl aM (ac (al 3) (ac (al 9) (ac (az (bx.m0 bi) (iX (Kq (Kv (by decide:1<=64) _) hu) (al 3) (bJ (ac (al 5) (ac (al 7) ad))) (λ_ _=>rfl)) (bK (al 8) rfl)) ad)))) λ_=>rfl))))
   (ag (bw (eC PySem.F.plainAttrs_list PySem.F.slot_list_append PySem.F.type_list_append bX (al 6) (ac (al 9) ad))))
   bu))))))
   (ag (aH (i:=4) sc.nd rfl (Or.inl rfl) (al 6))))))))),?_⟩
  walk_at "n";refine⟨J9 _,λl hl=>h1 _ _ ?_⟩;clear h1;generalize z0:aC H l _=H1;obtain⟨s1,e1⟩:=iH hl z0;walk_at "n";have hT1:bT H1 d tb0:=hT.up s1;have hcl:(eX q).length=8:=by unfold eX;rw[JM,List.length_range]
  refine⟨⟨_,aQ.of (s1 _ _ hlt)⟩,?_⟩;refine bZ (xs:=(eX q).map V.str) (λi σ H'=>aD H H'/\i<=8/\(∃bs:List Addr,H' l=some (.lst (bs.map V.ref))/\aK aT H' bs (jt q ns tb0 i))/\∃x5 x6 x7 x8 x9,σ=[some (V.ref lr),some (V.ref lt),some (V.ref ln),some (V.ref d),some (V.ref l),x5,x6,x7,x8,x9]) ⟨s1,J9 _,⟨[],e1,aK.nil⟩,_,_,_,_,_,rfl⟩ (λi σ H' _ h=>aQ.of (h.1 _ _ hlt)) ?_ ?_
  ·rintro i x σ H' hx ⟨sm,_,⟨bs,hb,hA⟩,x5,x6,x7,x8,x9,rfl⟩
   rw[JO]at hx;obtain⟨z,hz,rfl⟩:=Ka.mp hx;have hi:i<8:=by have:=(JK.mp hz).1;omega
   have hz':z=tx (aZ (turned q i)):=by
    unfold eX at hz;rw[JO,List.getElem?_range hi]at hz;cases hz;rfl
   subst hz';walk_at "wp";refine⟨.inl ⟨rfl,_,aQ.of hb⟩,⟨_,aQ.of (sm _ _ hln)⟩,?_⟩;refine uy aT aT.up (as:=ns) (emb:=λn=>V.str (tx n)) (f:=λn=>if(aI tb0 (aZ (turned q i),n)).isSome=true then some (aZ (turned q i),n) else none) (λσ=>∃x,σ=[x,some (V.str (tx (aZ (turned q i)))),some (V.ref d)]) ⟨_,rfl⟩ (λH2 s2=>aQ.of (s2 _ _ (sm _ _ hln))) ⋯ ?_ ?_
   ·rintro j n hn σ H2 M1 M0 ⟨x0,rfl⟩ s2 k1 k0
    have hT2:bT H2 d tb0:=(hT.up sm).up s2;walk_at "wp";refine⟨au nofun,λtp htp=>?_⟩;generalize z0:aC H2 tp _=H3;obtain⟨s3,(hk:aT H3 tp (aZ (turned q i),n))⟩:=iH htp z0;have hg:=(hT2.up s3).told.get hk;refine⟨_,hg,?_⟩;cases hv:aI tb0 (aZ (turned q i),n) with
    |none=>
     rw[if_neg (by simp)];exact k0 _ _ (by simp[hv]) (s2.trans s3) s3 ⟨_,rfl⟩
    |some v=>
     rw[if_pos (by rfl)];exact⟨au nofun,λt2 ht2=>k1 t2 (aZ (turned q i),n) _ _ (by simp[hv]) ae (s2.trans (s3.trans (aj ht2))) (s3.trans (aj ht2)) ⟨_,rfl⟩⟩
   ·intro bs2 H2 s2 hA2 l2 hl2
    generalize z0:aC H2 l2 _=H3;obtain⟨s3,e3⟩:=iH hl2 z0;have hb3:=s3 _ _ (s2 _ _ hb);have n1:=hA.1;have n2:=hA2.1;have n3:=li q ns tb0 i;have n4:=List.length_filterMap_le (λn=>if(aI tb0 (aZ (turned q i),n)).isSome=true then some (aZ (turned q i),n) else none) ns;have n5:i*ns.length<=8*8:=Nat.mul_le_mul ⋯ h8;refine⟨_,hb3,_,e3,by rw[JM,JM];exact au ⋯,bQ ((sm.trans s2).trans s3) hl,hi,bs++bs2,by rw[ae,JX],?_⟩;rw[oQ];exact aK.app (hA.mono λb y _ _ h=>((h.up s2).up s3).put hb3) (hA2.mono λb y _ _ h=>(h.up s3).put hb3)
  ·rintro σ H' ⟨sm,_,⟨bs,hb,hA⟩,x5,x6,x7,x8,x9,rfl⟩
   refine h1 _ _ ?_;rw[JM,hcl]at hA;walk_at "wp";have hTI0:=hTI.op (op':=λk=>k∈jt q ns tb0 8) (λk hk=>qa.mp hk) (λk v ho no _=>absurd (qa.mpr ho) no);have hch:(jt q ns tb0 8).length<=8*8:=Kd (li q ns tb0 8) (Nat.mul_le_mul_left _ h8);have hT':bT H' d tb0:=hT.up sm;refine u6 λtw etw=>?_;refine⟨λm σ H2=>aN d H H2/\∃(tb:Tb) (chs:List Ky) (l2:Addr),bT H2 d tb/\jK aT H2 l2 chs/\TI trs rs q ns M L0 tb0 tb (λk=>k∈chs)/\chs.length<=8000000/\m=CB (CK q ns) (M+576) tb+(if chs=[] then 0 else 1)/\∃y5 y6 y7 y8 y9,σ=[some (V.ref lr),some (V.ref lt),some (V.ref ln),some (V.ref d),some (V.ref l2),y5,y6,y7,y8,y9],⟨_,aN.of sm,tb0,_,l,hT',⟨bs,hb,hA⟩,hTI0,⋯,rfl,_,_,_,_,_,rfl⟩,?_⟩;rintro m σ H2 ⟨sx,tb,chs,l2,hT2,⟨cs,hc2,hcA⟩,hI,hcl2,hm,y5,y6,y7,y8,y9,rfl⟩;walk_at "wp";refine⟨J9 _,λlz hlz=>?_⟩;generalize z0:aC H2 lz _=H3;obtain⟨s3,e3⟩:=iH hlz z0;refine zJ (s3 _ _ hc2) e3 ⟨_,rfl,?_⟩;cases chs with
   |nil=>
    have:cs=[]:=Ks.mp hcA.1;subst this;rw[if_neg (by simp)];exact qq H3 tb (hT2.up s3) (hI.op (λk hk=>hk.elim) (λk v ho _ _=>nomatch ho)) (sx.then s3)
   |cons ch chs=>
    have hne:cs≠[]:=λe=>by rw[e]at hcA;exact nomatch hcA.1
    rw[if_pos (by cases cs with | nil=>exact absurd rfl hne | cons _ _=>rfl)];rw[etw];generalize hall:ch::chs=all at hcA hI hcl2 hm;have ya9:all≠[]:=λe=>nomatch hall.trans e;rw[if_neg ya9]at hm;refine⟨_,λσ' H' h=>h,?_⟩;have hmu:=hI.mu h8;have hmu2:(M+577)*64<=8000000:=by omega
    have hT3:bT H3 d tb:=hT2.up s3;have sx3:=sx.then s3;have hc3:=s3 _ _ hc2;have hcA3:=hcA.mono λb y _ _ (h:aT H2 b y)=>h.up s3;walk_at "n";refine⟨J9 _,λlw hlw=>h1 _ _ ?_⟩;clear h1;have s4:=aj (o:=.lst []) hlw;have e4:aC H3 lw (.lst []) lw=some (.lst []):=ae;have hl2w:l2≠lw:=av hc3 hlw;have hlw0:∀o,H lw=some o->lw=d:=λo h=>by
     by_cases e:lw=d
     ·exact e
     ·have:=sx3 lw o e h
      rw[hlw]at this;cases this
    have hlwd:lw≠d:=λe=>by
     rw[e]at hlw;rw[show H3 d=_ from hT3]at hlw;cases hlw
    generalize aC H3 lw (.lst [])=H4 at s4 e4 ⊢;walk_at "n";refine⟨⟨_,aQ.of (s4 _ _ hc3)⟩,?_⟩;refine bZ (xs:=cs.map V.ref) (λi σ H5=>aN d H H5/\i<=cs.length/\H5 l2=some (.lst (cs.map V.ref))/\aK aT H5 cs all/\(∃(tb5:Tb) (ws:KM) (lws:List Ky),bT H5 d tb5/\H5 lw=some (.lst (ws.map V.ref))/\aK aT H5 ws lws/\TI trs rs q ns M L0 tb0 tb5 (λk=>k∈all.drop i\/k∈lws)/\CB (CK q ns) (M+576) tb5+lws.length<=CB (CK q ns) (M+576) tb)/\∃z5 z7 z8 z9,σ=[some (V.ref lr),some (V.ref lt),some (V.ref ln),some (V.ref d),some (V.ref l2),z5,some (V.ref lw),z7,z8,z9]) ?_ (λi σ H5 _ h=>aQ.of h.2.2.1) ?_ ?_
    ·exact⟨sx3.then s4,J9 _,s4 _ _ hc3,hcA3.mono λb y _ _ h=>h.up s4,⟨tb,[],[],hT3.up s4,e4,aK.nil,hI.op (λk hk=>hk.elim id λz=>nomatch z) (λk v ho no _=>absurd (.inl ho) no),J8 _⟩,_,_,_,_,rfl⟩
    ·rintro i x σ H5 hx ⟨sx5,_,hl5,hcA5,⟨tb5,ws,lws,hT5,hw5,hwA,hI5,hm5⟩,z5,z7,z8,z9,rfl⟩
     rw[JO]at hx;obtain⟨cb,hcb,rfl⟩:=Ka.mp hx;have hi:=(JK.mp hcb).1;obtain⟨k,hk,hkb⟩:=hcA5.get hcb;have pr:=(JK.mp hk).1;have hdr:all.drop i=k::all.drop (i+1):=by
      rw[List.drop_eq_getElem_cons pr];rw[JJ pr]at hk;cases hk;rfl
     obtain⟨hkC,v,hv⟩:=hI5.opk k (.inl (by rw[hdr];exact List.mem_cons_self ..));obtain⟨t1,ht1,n1,hn1,ek⟩:=jS.mp hkC;obtain⟨t,hti,hfirst⟩:=uC (z:=tx k.1) (JP (show(eX q)[t1]?=some (tx k.1) by rw[Bc ht1,ek]));obtain⟨ht,ezt⟩:=D3 hti;have ekt:k.1=aZ (turned q t):=d8 ezt;have kp5:=sx5.kp hT;walk_at "wp";refine⟨_,jv.of hkb,rfl,_,_,rfl,_,_,rfl,rfl,⟨_,aQ.of (kp5.lst hlr)⟩,?_⟩;refine bZ (xs:=as.map V.ref) (λj σ H6=>aN d H H6/\j<=as.length/\H6 l2=some (.lst (cs.map V.ref))/\aK aT H6 cs all/\(∃(tb6:Tb) (ws:KM) (lws:List Ky),bT H6 d tb6/\H6 lw=some (.lst (ws.map V.ref))/\aK aT H6 ws lws/\TI trs rs q ns M L0 tb0 tb6 (λk=>k∈all.drop i\/k∈lws)/\CB (CK q ns) (M+576) tb6+lws.length<=CB (CK q ns) (M+576) tb/\aI tb6 k=some v/\∀r∈trs.take j,r.2.o1=k.2->∃v',v'<=v+r.2.c/\aI tb6 (gv q r t)=some v')/\∃z8 z9,σ=[some (V.ref lr),some (V.ref lt),some (V.ref ln),some (V.ref d),some (V.ref l2),some (V.str (tx k.1)),some (V.ref lw),some (V.str (tx k.2)),z8,z9]) ?_ (λj σ H6 _ h=>aQ.of ((h.1.kp hT).lst hlr)) ?_ ?_
     ·exact⟨sx5,J9 _,hl5,hcA5,⟨tb5,ws,lws,hT5,hw5,hwA,hI5,hm5,hv,λr hr=>nomatch hr⟩,_,_,rfl⟩
     ·rintro j x σ H6 hx ⟨sx6,_,hl6,hcA6,⟨tb6,ws6,lws6,hT6,hw6,hwA6,hI6,hm6,hv6,hs6⟩,y8,y9,rfl⟩
      rw[JO]at hx;obtain⟨ra,hra,rfl⟩:=Ka.mp hx;have hj:=(JK.mp hra).1;obtain⟨r,hr⟩:∃r,trs[j]?=some r:=⟨_,JJ (by rw[<- hrs.1];exact hj)⟩;obtain⟨r3,rk3⟩:=hR r (JP hr);have kp6:=sx6.kp hT;obtain⟨rdx,rl,hrb,_⟩:=(hrs.kp kp6).2 j ra r hra hr;rw[rk3]at hrb;have hrb':H6 ra=some (.ins R.ct rdx (DM r.2.n r.2.c rl r.2.o1 r.2.t)):=hrb;have hu8:r.2.t.toNat<8:=by have:=r3.t0;have:=r3.t7;omega
      have hat:=gi ht hu8;refine aw λN1 h1=>?_;have hlt6:H6 lt=some (.lst ((eX q).map V.str)):=kp6.lst hlt;walk_at "wp";refine⟨.inl ⟨rfl,_,aQ.of hlt6⟩,eX q,hlt6,t,hti,hfirst,_,_,_,hrb',rk.i3.cl,rk.a3.2.2.2.2,_,rfl,t,r.2.t.toNat,by rw[KA r3.t0],ht,hu8,(eX q).map V.str,_,rfl,aQ.of hlt6,_,ci (by rw[JO,Bc hat];rfl),_,_,_,hrb',rk.i3.cl,rk.a3.1,_,rfl,au nofun,λtp htp=>h1 _ _ ?_⟩;clear h1;have s7:=aj (o:=.tup [V.str (tx (aZ (turned q (after t r.2.t.toNat)))),V.str (tx r.2.n)]) htp;have hk7:aT (aC H6 tp (.tup [V.str (tx (aZ (turned q (after t r.2.t.toNat)))),V.str (tx r.2.n)])) tp (gv q r t):=ae;change Cm _ _ _ _ _ (aC H6 tp (.tup [V.str (tx (aZ (turned q (after t r.2.t.toNat)))),V.str (tx r.2.n)]));generalize aC H6 tp (.tup [V.str (tx (aZ (turned q (after t r.2.t.toNat)))),V.str (tx r.2.n)])=H7 at s7 hk7 ⊢;have hT7:=hT6.up s7;have hrb7:=s7 _ _ hrb';walk_at "wp";have htk:trs.take (j+1)=trs.take j++[r]:=by rw[List.take_add_one,hr];rfl
      have hwA7:=hwA6.mono λb y _ _ (h:aT H6 b y)=>h.up s7;have hcA7:=hcA6.mono λb y _ _ (h:aT H6 b y)=>h.up s7;refine⟨_,_,_,hrb7,rk.i3.cl,rk.a3.2.2.2.1,_,rfl,by simp[AD],?_⟩
      by_cases e:r.2.o1=k.2
      ·rw[if_pos (by rw[e])]
       refine⟨au nofun,λtq htq=>?_⟩;generalize z0:aC H7 tq _=H8;obtain⟨s8,(hk8:aT H8 tq k)⟩:=iH htq z0;have hT8:bT H8 d tb6:=hT7.up s8;have hg8:=hT8.told.get hk8;rw[hv6]at hg8;have h64:=hI6.len64 h8;have ek2:(aZ (turned q t),r.2.o1)=k:=by rw[<- ekt,e]
       obtain⟨hI9,hm9⟩:=hI6.low hq a0 c0 hO h8 r3 ht (v:=v) (by rw[ek2];exact hkC) (by rw[ek2];exact hv6);refine⟨_,hg8,_,_,_,s8 _ _ hrb7,rk.i3.cl,rk.a3.2.1,_,rfl,v,rfl,r.2.c,rfl,d,tp,tb6,gv q r t,v+r.2.c,rfl,hT8,hk7.up s8,by have:=sizeLine_eq;omega,λH9 hT9 sx9=>⟨_,rfl,?_⟩⟩;have kp9:=sx9.kp hT8;have hv9:aI (dB tb6 (gv q r t) (v+r.2.c)) k=some v:=by
        rw[iR]
        split
        ·rename_i hc
         obtain⟨hc1,hc2⟩:=hc;unfold gB at hc2;rw[<- hc1,hv6]at hc2;have h3:v+r.2.c<v:=by simpa using hc2
         have:=r3.c1;omega
        ·exact hv6
       have hs9:∀r'∈trs.take (j+1),r'.2.o1=k.2->∃v',v'<=v+r'.2.c/\aI (dB tb6 (gv q r t) (v+r.2.c)) (gv q r' t)=some v':=by
        intro r' hr' e';rw[htk]at hr';rcases JY.mp hr' with hr' | hr'
        ·obtain⟨v1,l1,e1⟩:=hs6 r' hr' e'
         obtain⟨v2,l2,e2⟩:=vV tb6 (gv q r t) (v+r.2.c) _ _ e1;exact⟨v2,Int.le_trans l2 l1,e2⟩
        ·rw[JN.mp hr']
         exact xg _ _ _
       have sx9':=(sx6.then (s7.trans s8)).trans sx9;have hl9:=kp9.lst (s8 _ _ (s7 _ _ hl6));have hw9:=kp9.lst (s8 _ _ (s7 _ _ hw6));have hcA9:=hcA7.mono λb y _ _ (h:aT H7 b y)=>(h.up s8).kp kp9;have hwA9:=hwA7.mono λb y _ _ (h:aT H7 b y)=>(h.up s8).kp kp9;have hk9:=(hk7.up s8).kp kp9;cases hlb:gB tb6 (gv q r t) (v+r.2.c) with
       |false=>
        rw[hlb]at hI9 hm9;rw[if_neg (by simp)];refine⟨sx9',hj,hl9,hcA9,_,hT9,ws6,hw9,lws6,hwA9,hI9.op (λx hx=>.inl hx) (λx w ho no _=>?_),by simp at hm9;omega,hv9,hs9⟩;exact absurd (ho.elim id λz=>nomatch z.1) no
       |true=>
        rw[hlb]at hI9 hm9;rw[if_pos rfl];have hwl:=hwA6.1;simp only[if_pos]at hm9;refine⟨.inl ⟨rfl,_,aQ.of hw9⟩,_,hw9,by rw[JM];exact yN ⋯,λb o hb h=>?_,hj,?_,?_,_,?_,ws6++[tp],?_,lws6++[gv q r t],(hwA9.mono λb y _ _ h=>h.put hw9).snoc (hk9.put hw9),hI9.op (λx hx=>?_) (λx w ho no _=>?_),?_,hv9,hs9⟩
        ·rw[ai (show b≠lw from λz=>hb (z.trans (hlw0 o (z▸h))))];exact sx9' b o hb h
        ·rw[ai hl2w];exact hl9
        ·exact hcA9.mono λb y _ _ h=>h.put hw9
        ·show aC H9 lw _ d=_
         rw[ai (Ne.symm hlwd)];exact hT9
        ·rw[ae,JX];rfl
        ·rcases hx with hx | hx
         ·exact .inl (.inl hx)
         ·rcases JY.mp hx with hx | hx
          ·exact .inl (.inr hx)
          ·exact .inr ⟨rfl,JN.mp hx⟩
        ·refine absurd ?_ no
         rcases ho with(ho | ho) | ho
         ·exact .inl ho
         ·exact .inr (List.mem_append_left _ ho)
         ·exact .inr (List.mem_append_right _ (JN.mpr ho.2))
        ·rw[J7,List.length_singleton];omega
      ·rw[if_neg (λh=>e (d8 (by injection h)))]
       refine⟨sx6.then s7,hj,s7 _ _ hl6,hcA7,tb6,hT7,ws6,s7 _ _ hw6,lws6,hwA7,hI6,hm6,hv6,λr' hr' e'=>?_⟩;rw[htk]at hr';rcases JY.mp hr' with hr' | hr'
       ·exact hs6 r' hr' e'
       ·rw[JN.mp hr']at e'
        exact absurd e' e
     ·rintro σ H6 ⟨sx6,_,hl6,hcA6,⟨tb6,ws6,lws6,hT6,hw6,hwA6,hI6,hm6,hv6,hs6⟩,y8,y9,rfl⟩
      rw[JM,hrs.1,Kj]at hs6;refine⟨sx6,hi,hl6,hcA6,⟨tb6,hT6,ws6,hw6,lws6,hwA6,hI6.op (λx hx=>hx.elim (λh=>.inl (by rw[hdr];exact J1 _ h)) .inr) (λx w ho no e=>?_),hm6⟩,_,_,_,_,rfl⟩;have ex:x=k:=by
       rcases ho with ho | ho
       ·rw[hdr]at ho
        rcases J0.mp ho with ho | ho
        ·exact ho
        ·exact absurd (.inl ho) no
       ·exact absurd (.inr ho) no
      subst ex;rw[hv6]at e;cases e;intro r hr e1 t' ht' e2;obtain⟨v',l',e'⟩:=hs6 r hr e1;have u8:r.2.t.toNat<8:=by have:=(hR r hr).1.t0;have:=(hR r hr).1.t7;omega
      refine⟨v',l',?_⟩;have et:turned q t'=turned q t:=(hO t' ht').inj (hO t ht) (by rw[<- e2,<- ekt]);unfold gv at e' ⊢;rw[<- bC hq a0 c0 ht' u8,et,bC hq a0 c0 ht u8];exact e'
    ·rintro σ H5 ⟨sx5,_,hl5,hcA5,⟨tb5,ws,lws,hT5,hw5,hwA,hI5,hm5⟩,z5,z7,z8,z9,rfl⟩
     refine h1 _ _ ?_;walk_at "wp";rw[JM,hcA5.1,List.drop_length]at hI5;have hI9:=hI5.op (op':=λk=>k∈lws) (λk hk=>.inr hk) (λk v ho no _=>ho.elim (λz=>nomatch z) λz=>absurd z no);refine⟨_,?_,sx5,tb5,hT5,lws,lw,⟨ws,hw5,hwA⟩,hI9,⋯,rfl,rfl⟩;cases lws with
     |nil=>rw[if_pos rfl];simp at hm5;omega
     |cons _ _=>rw[if_neg (by simp)];simp at hm5;omega
theorem nE{R:RC}{H:Hp}:∀{as:KM} {rs:Yaa},bg R H as rs->∃tas:List Addr,((as.zip rs).filterMap λx=>if x.2.1=3 then some (V.ref x.1) else none)=tas.map V.ref/\bg R H tas (nN rs)
 | [],[],h=>⟨[],rfl,h⟩
 | [],_::_,h=>nomatch h.1
 |_::_,[],h=>nomatch h.1
 |a::as,r::rs,h=>by
  have h2:bg R H as rs:=⟨Nat.succ.inj h.1,λi b y e1 e2=>h.2 (i+1) b y e1 e2⟩;obtain⟨tas,e,ht⟩:=nE h2;rw[List.zip_cons_cons,List.filterMap_cons]
  by_cases h3:r.1=3
  ·refine⟨a::tas,by simp only[if_pos h3];rw[e];rfl,?_⟩
   have et:nN (r::rs)=r::nN rs:=by unfold nN;rw[List.filter_cons,if_pos (by simpa using h3)]
   rw[et];refine⟨by rw[JW,JW,ht.1],λi b y e1 e2=>?_⟩;cases i with
   |zero=>
    rw[List.getElem?_cons_zero]at e1 e2;cases e1;cases e2
    exact h.2 0 _ _ rfl rfl
   |succ i=>exact ht.2 i b y e1 e2
  ·refine⟨tas,by simp only[if_neg h3];exact e,?_⟩
   have et:nN (r::rs)=nN rs:=by unfold nN;rw[List.filter_cons,if_neg (by simpa using h3)]
   rw[et];exact ht
theorem qJ:∀{as:KM} {rs:Yaa} (k:Nat),as.length=rs.length->(((as.zip rs).zipIdx k).filterMap λx=>if x.1.2.1=3 then none else some (V.int (x.2:Int)))=vp ((rs.zipIdx k).filterMap λx=>if x.1.1=3 then none else some x.2)
 | [],[],_,_=>rfl
 | [],_::_,_,h=>nomatch h
 |_::_,[],_,h=>nomatch h
 |a::as,r::rs,k,h=>by
  have ih:=qJ (as:=as) (rs:=rs) (k+1) (Nat.succ.inj h);rw[List.zip_cons_cons,List.zipIdx_cons,List.zipIdx_cons,List.filterMap_cons,List.filterMap_cons]
  by_cases h3:r.1=3
  ·simp only[if_pos h3];exact ih
  ·simp only[if_neg h3];rw[ih];rfl
abbrev dO:Stmt:=gW 54
inductive fD(R:RC)(CG:Addr)(vs:List V)(H:Hp)(Q:VK)(_E:XK):Prop
 |mk (g dx a d:Addr) (sg st:KI) (as:KM) (rs:Yaa) (nms:List (List Nat)) (p q:aF) (r c:Nat) (dn:KQ) (tb:Tb) (_:vs=[.ref g,.ref a,.ref d]) (_:cO R H CG dx g sg st as rs) (_:(bd (tx st) rs).map (·.1)=nms.map tx) (_:kq rs nms p r c) (_:rW rs p r c dn q) (_:ES rs nms p r c dn tb) (_:H a=some (.lst (ar q))) (_:bT H d tb) (_:tb.length<=9900000) (_:∀l H' tb',H' l=some (.lst ((eX q).map V.str))->bT H' d tb'->(∀dn',(∀z,z∈dn'↔z∈dn\/∃t,t<8/\z=tx (aZ (turned q t)))->ES rs nms p r c dn' tb')->tb'.length<=tb.length+1216->aN d H H'->Q (.ref l) H')
theorem jY:aB ["grammar","picture","told","turning","putting","texts","t","cuts"] ["grammar","picture","told"] (ak dO):=by walk_at "c"
theorem ki{R:RC}{f CG CC:Addr}{fd:KO}(F:dw K "enter_turnings" "enter_turnings" dO f fd)(nb:NB mg)(rk:lB K R)(rk4:Ao K R)(cc:jc K CC)(nc:DS K CC){tkT:Tok}(yak:mg "TURNINGS"=some (.int 8 tkT))(zEa:mg "TurnRule"=some (.ref R.ct))(yam:ig P w K mg base bB 1 CG "rules" ["self"] (fU R CG))(yau:ig P w K mg base bB 1 CG "names" ["self"] (fW R CG))(yaq:lI P w K mg base bB 3 "Cuts" CC ["self","picture"] (gD K))(zra:dL P w K mg base bB 3 "turned" ["picture","t"] (i8 K))(yaT:dL P w K mg base bB 7 "put_together" ["grammar","numbers","cuts","told"] (g7 R CG CC))(yaE:dL P w K mg base bB 2 "turn_about" ["rules","texts","names","told"] (jx R)):aR P w K mg base bB 8 f fd ["grammar","picture","told"] (fD R CG):=by
 have sc:=jY;walk_at "f"
 ·obtain⟨g,dx,a,d,sg,st,as,rs,nms,p,q,r,c,dn,tb,rfl,_⟩:=h;rfl
 ·obtain⟨g,dx,a,d,sg,st,as,rs,nms,p,q,r,c,dn,tb,rfl,hG,hnm,hE,hN,hS,ha,hT,htl,qq⟩:=h
  have hu:=hr.units;refine⟨_,(af (gH (i:=3) ["rule"] [] sc.nd rfl (Or.inl rfl) rfl  rfl (bH.of (by kernel_rfl)) (by kernel_rfl) (bD (nh yam (hr.mono nofun) aM (al 0)))
    (λ_ _ _ _=>(aA (i:=0) (by show(["rule"]:List Str).Nodup;decide +kernel) rfl (Or.inl rfl))) (λ_ _ _ _=>(tL (jr (aP (gm (K:=K) rfl) rfl nb.isinstance dj (ac (al 0) (ac (cY (v:=.ref _) rfl zEa rfl) ad))) λ_=>rfl))) (λ_ _ _ _=>(al 0)))
   (af (gH (i:=4) ["k","rule"] [] sc.nd rfl (Or.inl rfl) rfl  rfl (bH.of (by kernel_rfl)) (by kernel_rfl) (mU rfl nb.enumerate (ac (nh yam (hr.mono nofun) aM (al 0)) ad))
    (λ_ _ _ _=>(mR (K:=K) (n:=2) rfl rfl (aS (aA (i:=0) (by show(["k","rule"]:List Str).Nodup;decide +kernel) rfl (Or.inl rfl)) (aS (aA (i:=1) (by show(["k","rule"]:List Str).Nodup;decide +kernel) rfl (Or.inl rfl)) dU)))) (λ_ _ _ _=>(tL (lh (jr (aP (gm (K:=K) rfl) rfl nb.isinstance dj (ac (al 1) (ac (cY (v:=.ref _) rfl zEa rfl) ad))) λ_=>rfl)))) (λ_ _ _ _=>(al 0)))
   (af (aH (i:=5) sc.nd rfl (Or.inl rfl) (bE ad))
   (af (bj PassesOwn.never rfl (cB rfl nb.range (ac (cY (v:=.int 8) rfl yak ⟨_,rfl⟩) ad)) (aA (i:=6) sc.nd rfl (Or.inl rfl))
   (af (aH (i:=7) sc.nd rfl (Or.inl rfl) (i5 yaq (hr.mono nofun) rfl aM (ac (aE zra (hr.mono nofun) rfl aM (ac (al 1) (ac (al 6) ad))) ad)))
   (af (bw (aE yaT (hr.mono nofun) rfl aM (ac (al 0) (ac (al 4) (ac (al 7) (ac (al 2) ad))))))
   (ag (bw (eC PySem.F.plainAttrs_list PySem.F.slot_list_append PySem.F.type_list_append bX (al 5) (ac (bK (al 7) rfl) ad)))))))
   (af (bw (aE yaE (hr.mono nofun) rfl aM (ac (al 3) (ac (al 5) (ac (nh yau (hr.mono nofun) aM (al 0)) (ac (al 2) ad))))))
   (ag (aJ (al 5)))))))),?_⟩
  obtain⟨lk,pn,nt,hga,hgk,hrs,hgN,hgm⟩:=id hG;have hk4:∀x∈rs,x.1<4:=λx hx=>(hE.gd x hx).k4;have hrl:=hE.r24;have hrl2:=hrs.1;have hzl:(as.zip rs).length<=1000000:=by rw[List.length_zip];omega
  walk_at "n";refine⟨_,_,hga,rfl,g,dx,sg,st,as,rs,rfl,hG,λl1 H1 hl1 e1 s1=>?_⟩;refine⟨l1,rfl,⟨_,aQ.of e1⟩,?_⟩;refine oU (as:=as.zip rs) (emb:=λx=>V.ref x.1) (f:=λx=>if x.2.1=3 then some (V.ref x.1) else none) (λσ=>∃x,σ=[x]) ⟨_,rfl⟩ (λH2 s2=>by rw[hrs.zip.1];exact aQ.of (s2 _ _ e1)) hzl ?_ ?_
  ·rintro j x hx σ H2 M1 M0 ⟨x0,rfl⟩ s2 k1 k0
   have hxm:=JP hx;obtain⟨rdx,rl,hrb,_⟩:=(((hrs.zip.2.2 x hxm).up s1).up s2);have hx4:x.2.1<4:=hk4 x.2 (by rw[<- hrs.zip.2.1];exact Kt.mpr ⟨x,hxm,rfl⟩);walk_at "wp";refine⟨_,(rk.icls x.2.1).ty hrb,_,rk4.kit x.2.1 3 hx4 nofun,?_⟩
   by_cases h3:x.2.1=3
   ·rw[if_pos (by simpa using h3)]
    exact k1 _ _ _ (by rw[if_pos h3]) s2 ⟨_,rfl⟩
   ·rw[if_neg (by simpa using h3)]
    exact k0 _ _ (by rw[if_neg h3]) s2 ⟨_,rfl⟩
  ·intro H2 s2 l2 hl2
   obtain⟨tas,etas,hta⟩:=nE hrs;rw[etas];refine h1 _ _ ?_;clear h1;generalize z0:aC H2 l2 _=H3;obtain⟨s3,e3⟩:=iH hl2 z0;have sA:=s1.trans (s2.trans s3);walk_at "n";have hG3:=hG.up sA;refine⟨_,_,sA _ _ hga,rfl,g,dx,sg,st,as,rs,rfl,hG3,λl4 H4 hl4 e4 s4=>?_⟩;refine⟨l4,rfl,_,aQ.of e4,?_⟩;have sB:=sA.trans s4;refine v5 (as:=as.zip rs) (emb:=λx=>V.ref x.1) (f:=λi x=>if x.2.1=3 then none else some (V.int (i:Int))) (λσ=>∃x y,σ=[x,y]) ⟨_,_,rfl⟩ (λH5 s5=>by rw[hrs.zip.1];exact aQ.of (s5 _ _ e4)) hzl ?_ ?_
   ·rintro j x hx σ H5 tp M1 M0 ⟨x0,x1,rfl⟩ s5 htp k1 k0
    have hxm:=JP hx;generalize z0:aC H5 tp _=H6;obtain⟨s6,e6⟩:=iH htp z0;obtain⟨rdx,rl,hrb,_⟩:=((((hrs.zip.2.2 x hxm).up sB).up s5).up s6);have hx4:x.2.1<4:=hk4 x.2 (by rw[<- hrs.zip.2.1];exact Kt.mpr ⟨x,hxm,rfl⟩);walk_at "wp";refine⟨_,jv.of e6,rfl,_,_,rfl,_,_,rfl,rfl,_,(rk.icls x.2.1).ty hrb,_,rk4.kit x.2.1 3 hx4 nofun,?_⟩
    by_cases h3:x.2.1=3
    ·rw[if_neg (by simpa using h3)]
     exact k0 _ _ (by rw[if_pos h3]) (s5.trans s6) ⟨_,_,rfl⟩
    ·rw[if_pos (by simpa using h3)]
     exact k1 _ _ _ (by rw[if_neg h3]) (s5.trans s6) ⟨_,_,rfl⟩
   ·intro H5 s5 l5 hl5
    rw[show((as.zip rs).zipIdx.filterMap λx=>if x.1.2.1=3 then none else some (V.int (x.2:Int)))=vp (eu rs) from qJ 0 hrl2];refine h1 _ _ ?_;clear h1;generalize z0:aC H5 l5 _=H6;obtain⟨s6,e6⟩:=iH hl5 z0;have sC:=sB.trans (s5.trans s6);have e36:=(s4.trans (s5.trans s6)) _ _ e3;have hta6:=hta.up sC;have hG6:=hG.up sC;have ha6:=sC _ _ ha;have hT6:bT H6 d tb:=hT.up sC;clear s6 hl5 s5 s4 e4 hl4 sB hG3 sA s3 e3 hl2 s2 s1 e1 hl1;walk_at "n";refine⟨J9 _,λl7 hl7=>h1 _ _ ?_⟩;clear h1;generalize z0:aC H6 l7 _=H7;obtain⟨s7,e7⟩:=iH hl7 z0;walk_at "n";rw[show Int.toNat 8=8 from rfl];obtain⟨a0,b0,h60⟩:=sh hE.hp hE.r6 hE.c6 hN.sq;have hPS:=hS.pta hE hN;have hpn:(eu rs).length<=24:=by
     unfold eu;refine Kd (List.length_filterMap_le _ _) ?_;rw[List.length_zipIdx];exact hrl
    have hl7d:l7≠d:=λe=>by
     rw[e]at hl7;rw[show H6 d=_ from hT6]at hl7;cases hl7
    refine⟨nofun,b7 (lo:=0) (n:=8) (λt σ H8=>aN d H6 H8/\bT H8 d (pta rs (eu rs) q tb t)/\H8 l7=some (.lst (((List.range t).map λu=>tx (aZ (turned q u))).map V.str))/\∃x6 x7,σ=[some (V.ref g),some (V.ref a),some (V.ref d),some (V.ref l2),some (V.ref l5),some (V.ref l7),x6,x7]) ⟨aN.of s7,hT6.up s7,e7,_,_,rfl⟩ ?_ ?_⟩
    ·rintro t σ H8 ht ⟨sx8,hT8,e8,x6,x7,rfl⟩
     have kp8:=sx8.kp hT6;have hst:=hN.sq.turned hE.hp ht;obtain⟨a1,b1,h61⟩:=sh hE.hp hE.r6 hE.c6 hst;have:=h60.r6;have:=h60.c6;walk_at "n";refine⟨a,q,a0,b0,t,by simp,aQ.of (kp8.lst ha6),h60.rc,h60.r0,h60.c0,⋯,⋯,ht,λlq H9 hlq elq s9=>?_⟩;intro x dx2 hx hdx hne;have sm4:aD H9 (aC (aC H9 dx2 (.own x)) x (.ins CC dx2 [])):=(aj hdx).trans (aj (by rw[ai (Ne.symm hne)];exact hx));refine⟨x,CC,dx2,lq,turned q t,a1,b1,rfl,ae,cc.cl,nc,sm4 _ _ elq,h61,λH3 hC sx=>⟨rfl,h1 _ _ ?_⟩⟩;clear h1;have s3:aD H9 H3:=λy u e=>sx y u (av e hx) (sm4 y u e);have s93:=s9.trans s3;have hT3:bT H3 d (pta rs (eu rs) q tb t):=hT8.up s93;have sx3:=sx8.then s93;have kp3:=sx3.kp hT6;have hlen:=(hPS t ⋯).len;walk_at "n";refine⟨g,dx,l5,x,d,sg,st,as,rs,eu rs,turned q t,a1,b1,pta rs (eu rs) q tb t,rfl,hG6.kp kp3,hE.gd,kp3.lst e6,λn hn=>(let ⟨r',e',_⟩:=kr.mp hn;(JK.mp e').1),⋯,hC,h61,hT3,?_,λH4 hT4 sx4=>h1 _ _ ?_⟩
     ·have:6*(eu rs).length*t<=6*24*8:=Nat.mul_le_mul ⋯ ⋯
      omega
     clear h1;have kp4:=sx4.kp hT3;obtain⟨dxc,lp,lb,la,hc0,_⟩:=hC.kp kp4;have e84:=kp4.lst (s93 _ _ e8);walk_at "wp";refine⟨.inl ⟨rfl,_,aQ.of e84⟩,_,_,_,hc0,cc.cl,nc.2.1,_,rfl,_,e84,by rw[JM,JM,List.length_range];exact bh ⋯,λb o hb h=>?_,?_,?_⟩
     ·rw[ai (av h hl7)];exact(sx3.trans sx4) b o hb h
     ·show aC H4 l7 _ d=_
      rw[ai (Ne.symm hl7d)];exact hT4
     ·rw[ae,List.range_succ,JX,JX];rfl
    ·rintro σ H8 ⟨sx8,hT8,e8,x6,x7,rfl⟩
     refine h1 _ _ ?_;clear h1;walk_at "wp";have kp8:=sx8.kp hT6;have hG8:=hG6.kp kp8;obtain⟨lk',pn',nt',hga8,_⟩:=id hG8;have PS8:=hPS 8 (J8 _);have hlen:=PS8.len;have hlen2:6*(eu rs).length*8<=6*24*8:=Nat.mul_le_mul ⋯ ⋯;have hTI:=ES.start hE hN hS PS8;have hcell:ba q<=6*6:=by
      unfold ba;rw[h60.rc.1,aU h60.rc h60.r0];exact Nat.mul_le_mul h60.r6 h60.c6
     refine⟨_,_,hga8,rfl,g,dx,sg,st,as,rs,rfl,hG8,λln H9 hln eln s9=>?_⟩;have sx9:=sx8.then s9;have kp9:=sx9.kp hT6;refine⟨l2,l7,ln,d,tas,nN rs,rs,q,a0,b0,nms,1170*ba q-1161,(pta rs (eu rs) q tb 8).length,pta rs (eu rs) q tb 8,rfl,kp9.lst e36,hta6.kp kp9,s9 _ _ e8,?_,hT8.up s9,h60.rc,h60.r0,h60.c0,λt ht=>dY hE.hp hE.ns (hN.sq.turned hE.hp ht),hE.n8,λx hx=>⟨hE.turn3 hx,by simpa using(List.mem_filter.mp hx).2⟩,hTI,⋯,⋯,λH' tb' hT' hTI' sx'=>?_⟩
     ·rw[eln]
      congr 2
      have:=congrArg (List.map V.str) hnm;rw[JZ,JZ]at this;exact this
     ·have h64:=hTI'.len64 hE.n8
      refine qq l7 H' tb' ((sx'.kp (hT8.up s9)).lst (s9 _ _ e8)) hT' (λdn' hd=>ES.enter hE hN hS PS8 hTI' hd) ⋯ ((aN.of sC).trans (sx9.trans sx'))
structure vk(rs:Yaa)(nms:List (List Nat))(p:aF)(r c:Nat)(tb:Tb):Prop where
 nd:(tb.map (·.1)).Nodup
 key:∀k v,aI tb k=some v->(∃q,bc p r c q/\k.1=aZ q)/\k.2∈nms/\Dv rs k v/\1<=v
 clo:∀q,bc p r c q->GM rs (aI tb) q
 len:tb.length<=9900000
theorem vk.min{rs:Yaa}{nms:List (List Nat)}{p:aF}{r c:Nat}{tb:Tb}(E:kq rs nms p r c)(h:vk rs nms p r c tb){q:aF}(hq:bc p r c q){n:KI}{v:Int}(hv:Dv rs (aZ q,n) v):∃v',v'<=v/\aI tb (aZ q,n)=some v':=
 Ah E.hp E.ns (λx hx=>⟨(E.gd x hx).good.t0,(E.gd x hx).good.t7⟩) h.clo hv q hq rfl
def F2(d e:Addr)(H H':Hp):Prop:=∀b o,b≠d->b≠e->H b=some o->H' b=some o
theorem cO.f2{R:RC}{H H':Hp}{C dx a d e:Addr}{sg st:KI}{as:KM}{rs:Yaa}{m:List (List cC×V)}(g:cO R H C dx a sg st as rs)(hd:H d=some (.dT m))(he:H e=some (.dK []))(s:F2 d e H H'):cO R H' C dx a sg st as rs:=by
 obtain⟨lk,pn,t,h1,h2,h3,h4,h5⟩:=g;have nl:∀{b:Addr} {xs:List V},H b=some (.lst xs)->H' b=some (.lst xs):=fun{b xs} h=>s b _ (λz=>by rw[z,hd]at h;cases h) (λz=>by rw[z,he]at h;cases h) h;have ni:∀{b C dx:Addr} {fs:List (Str×V)},H b=some (.ins C dx fs)->H' b=some (.ins C dx fs):=fun{b C dx fs} h=>s b _ (λz=>by rw[z,hd]at h;cases h) (λz=>by rw[z,he]at h;cases h) h;refine⟨lk,pn,t,ni h1,nl h2,⟨h3.1,λi b r e1 e2=>?_⟩,⟨s pn _ (λz=>?_) (λz=>?_) h4.dict,λx hx=>nl (h4.list x hx),h4.apart⟩,h5⟩
 ·obtain⟨dx,l,k1,k2⟩:=h3.2 i b r e1 e2
  exact⟨dx,l,ni k1,nl k2⟩
 ·have h:=h4.dict
  rw[z,hd]at h;cases h
 ·have h:=h4.dict
  rw[z,he]at h
  injection h with h
  injection h with h
  have ht:t=[]:=by
   cases t with
   |nil=>rfl
   |cons x t=>exact nomatch h
  rw[ht]at h5;have h6:=(kh (tx st) rs (tx st)).mpr (.inl rfl);rw[<- h5]at h6;exact nomatch h6
def ul(dn:KQ)(zs:KQ):List Str:=zs.foldl ThM.addNew dn
theorem j_{z:Str}:∀{zs dn:KQ},z∈ul dn zs↔z∈dn\/z∈zs
 | [],dn=>by simp[ul]
 |y::zs,dn=>by
  show z∈ul (ThM.addNew dn y) zs↔_;rw[j_,ThM.mem_addNew,J0,or_assoc]
theorem m9:∀(zs dn:KQ),(ul dn zs).length<=dn.length+zs.length
 | [],dn=>J8 _
 |y::zs,dn=>by
  have h1:=m9 zs (ThM.addNew dn y);have h2:(ThM.addNew dn y).length<=dn.length+1:=by unfold ThM.addNew;split<;>simp
  show(ul (ThM.addNew dn y) zs).length<=_;rw[JW];omega
theorem uI{q:aF}{z:Str}:z∈eX q↔∃t,t<8/\z=tx (aZ (turned q t)):=by
 unfold eX;rw[Kt]
 constructor
 ·rintro⟨t,ht,rfl⟩;exact⟨t,List.mem_range.mp ht,rfl⟩
 ·rintro⟨t,ht,rfl⟩;exact⟨t,List.mem_range.mpr ht,rfl⟩
theorem ES.new{rs:Yaa}{nms:List (List Nat)}{p:aF}{r c:Nat}{dn:KQ}{tb:Tb}{qs:List aF}{i:Nat}{q:aF}(E:kq rs nms p r c)(S:ES rs nms p r c dn tb)(hsn:F3 p r c qs)(hi:qs[i]?=some q)(hdn:∀j z,j<i->qs[j]?=some z->tx (aZ z)∈dn)(hno:tx (aZ q)∉dn):rW rs p r c dn q:=by
 have sq:=(hsn.1 q).mp (JP hi);obtain⟨a0,b0,hr1,hr2,hr3,_⟩:=sq.rect E.hp;refine⟨sq,λt ht hd=>hno ?_,λq' hq' hc=>?_⟩
 ·have:=S.tur _ (sq.turned E.hp ht) hd (dA t) (kn ht)
  rwa [ma hr1 hr2 hr3 ht]at this
 ·obtain⟨j,hj⟩:=List.mem_iff_getElem?.mp ((hsn.1 q').mpr hq')
  refine hdn j q' ?_ hj;obtain⟨B9,ei⟩:=JK.mp hi;obtain⟨hj1,ej⟩:=JK.mp hj;rcases Nat.lt_trichotomy j i with h | h | h
  ·exact h
  ·subst h
   rw[ei]at ej;subst ej;omega
  ·have:=List.pairwise_iff_getElem.mp hsn.2 i j B9 hj1 h
   rw[ei,ej]at this;rcases this with h | ⟨h,_⟩<;>omega
abbrev gP:Stmt:=gW 53
inductive jw(K:W.Frag)(R:RC)(CG:Addr)(vs:List V)(H:Hp)(Q:VK)(_E:XK):Prop
 |mk (g dx a d e:Addr) (sg st:KI) (as:KM) (rs:Yaa) (nms:List (List Nat)) (p:aF) (r c:Nat) (_:vs=[.ref g,.ref a,.ref d,.ref e]) (_:cO R H CG dx g sg st as rs) (_:(bd (tx st) rs).map (·.1)=nms.map tx) (_:kq rs nms p r c) (_:aQ K H a (ar p)) (_:bT H d []) (_:H e=some (.dK [])) (_:∀H' tb,bT H' d tb->vk rs nms p r c tb->F2 d e H H'->Q .non H')
theorem pi:aB ["grammar","picture","told","done","seen","text"] ["grammar","picture","told","done"] (ak gP):=by walk_at "c"
theorem o8{R:RC}{f CG:Addr}{fd:KO}(F:dw K "enter_seen" "enter_seen" gP f fd)(nb:NB mg)(yaJ:dL P w K mg base bB 4 "seen_in" ["picture"] (nX K))(yab:dL P w K mg base bB 1 "shown" ["picture"] (dX K))(yaw:dL P w K mg base bB 8 "enter_turnings" ["grammar","picture","told"] (fD R CG)):aR P w K mg base bB 9 f fd ["grammar","picture","told","done"] (jw K R CG):=by
 have sc:=pi;walk_at "f"
 ·obtain⟨g,dx,a,d,e,sg,st,as,rs,nms,p,r,c,rfl,_⟩:=h;rfl
 ·obtain⟨g,dx,a,d,e,sg,st,as,rs,nms,p,r,c,rfl,hG,hnm,hE,hSq,hT,he,qq⟩:=h
  have hu:=hr.units;refine⟨_,(ag (bj PassesOwn.never rfl (bD (aE yaJ (hr.mono nofun) rfl aM (ac (al 1) ad))) (aA (i:=4) sc.nd rfl (Or.inl rfl))
   (ag (ce (nB (lu (Kq (Kv (by decide:1<=64) _) hu) (aE yab (hr.mono nofun) rfl aM (ac (al 4) ad)) (al 3)) (by with_unfolding_all rfl))
   (ag (bj PassesOwn.never rfl (bD (aE yaw (hr.mono nofun) rfl aM (ac (al 0) (ac (al 4) (ac (al 2) ad))))) (aA (i:=5) sc.nd rfl (Or.inl rfl))
   (ag (m7 (Kq (Kv (by decide:1<=64) _) hu) (al 3) (al 5) md rfl))))
   bu)))),?_⟩
  walk_at "wp";refine⟨a,p,r,c,rfl,hSq,hE.hp,hE.r0,hE.c0,hE.r6,hE.c6,hE.ns,λH1 l zs s1 hl el hz hnd hsn hzl=>⟨l,rfl,⟨_,aQ.of el⟩,?_⟩⟩;have hT1:bT H1 d []:=hT.up s1;have he1:=s1 _ _ he;have hG1:=hG.up s1;have hde:d≠e:=λz=>by rw[z]at hT;rw[show H e=_ from hT]at he;cases he
  have F2l:∀{H':Hp} {b:Addr} {xs:List V},F2 d e H1 H'->H1 b=some (.lst xs)->H' b=some (.lst xs):=fun{H' b xs} s h=>s b _ (λz=>by rw[z,show H1 d=_ from hT1]at h;cases h) (λz=>by rw[z,he1]at h;cases h) h;refine bZ (xs:=zs.map λz=>V.ref z.1) (λi σ H2=>F2 d e H1 H2/\i<=zs.length/\(∃(tb:Tb) (dn:KQ),bT H2 d tb/\H2 e=some (.dK (ThM.trueD dn))/\ES rs nms p r c dn tb/\(∀j z,j<i->(zs.map (·.2))[j]?=some z->tx (aZ z)∈dn)/\tb.length<=1216*i/\dn.length<=8*i)/\∃x4 x5,σ=[some (V.ref g),some (V.ref a),some (V.ref d),some (V.ref e),x4,x5]) ?_ (λi σ H2 _ h=>aQ.of (F2l h.1 el)) ?_ ?_
  ·refine⟨λb o _ _ h=>h,J9 _,⟨[],[],hT1,he1,⟨List.nodup_nil,(λk v h=>nomatch h),(λk v h=>nomatch h),(λz h=>nomatch h),(λq _ h=>nomatch h),(λq _ h=>nomatch h),(λq _ h=>nomatch h)⟩,(λj z h=>absurd h (Nat.not_lt_zero _)),J8 _,J8 _⟩,_,_,rfl⟩
  ·rintro i x σ H2 hx ⟨f2,_,⟨tb,dn,hT2,he2,hS,hdn,hl1,hl2⟩,x4,x5,rfl⟩
   rw[JO]at hx;obtain⟨z,hzi,rfl⟩:=Ka.mp hx;have hi:=(JK.mp hzi).1;have hzm:=JP hzi;have hz2:=F2l f2 (hz z hzm).2;have hqi:(zs.map (·.2))[i]?=some z.2:=by rw[JO,hzi];rfl
   have sq:=(hsn.1 z.2).mp (JP hqi);obtain⟨a0,b0,h60⟩:=sh hE.hp hE.r6 hE.c6 sq;have hdn1:tx (aZ z.2)∈dn->∀j y,j<i+1->(zs.map (·.2))[j]?=some y->tx (aZ y)∈dn:=λhm j y hj hy=>by
    by_cases ej:j=i
    ·subst ej
     rw[hqi]at hy;cases hy
     exact hm
    ·exact hdn j y ⋯ hy
   walk_at "wp";refine⟨z.1,z.2,rfl,hz2,h60.small,_,.inl ⟨_,.inr (tx (aZ z.2)),.inl he2,rfl,rfl⟩,?_⟩;rw[ThM.trueD_val]
   by_cases hm:tx (aZ z.2)∈dn
   ·rw[if_neg (by simpa using hm)]
    exact⟨f2,hi,tb,hT2,dn,he2,hS,hdn1 hm,⋯,⋯⟩
   ·rw[if_pos (by simpa using hm)]
    have hN:=hS.new hE hsn hqi hdn hm;refine⟨g,dx,z.1,d,sg,st,as,rs,nms,p,z.2,r,c,dn,tb,rfl,hG1.f2 hT1 he1 f2,hnm,hE,hN,hS,hz2,hT2,⋯,λl3 H3 tb3 el3 hT3 hS3 hl3 sx3=>⟨l3,rfl,⟨_,aQ.of el3⟩,?_⟩⟩;have he3:=sx3 _ _ (Ne.symm hde) he2;have hcl:(eX z.2).length=8:=by unfold eX;rw[JM,List.length_range]
    refine bZ (xs:=(eX z.2).map V.str) (λj σ H4=>aN e H3 H4/\j<=8/\H4 e=some (.dK (ThM.trueD (ul dn ((eX z.2).take j))))/\∃x5,σ=[some (V.ref g),some (V.ref a),some (V.ref d),some (V.ref e),some (V.ref z.1),x5]) ⟨aN.of λ_ _ h=>h,J9 _,he3,_,rfl⟩ (λj σ H4 _ h=>aQ.of (h.1 _ _ (λzz=>by rw[zz,he3]at el3;cases el3) el3)) ?_ ?_
    ·rintro j x σ H4 hx ⟨sx4,_,he4,x5,rfl⟩
     rw[JO]at hx;obtain⟨y,hy,rfl⟩:=Ka.mp hx;have hj:j<8:=by have:=(JK.mp hy).1;omega
     have hll:=m9 ((eX z.2).take j) dn;rw[Kk]at hll;walk_at "wp";refine⟨_,.inl ⟨_,.inr y,he4,rfl,by rw[ThM.trueD_len];exact bh ⋯,rfl⟩,sx4.put,hj,?_⟩;rw[ae,ThM.trueD_put,List.take_add_one,hy];show _=some (HO.dK (ThM.trueD (List.foldl ThM.addNew dn (_++[y]))));rw[List.foldl_append];rfl
    ·rintro σ H4 ⟨sx4,_,he4,x5,rfl⟩
     rw[JM,Kj]at he4;have hll:=m9 (eX z.2) dn;have hS4:=hS3 (ul dn (eX z.2)) λy=>by rw[j_,uI]
     refine⟨λb o h1 h2 h=>sx4 b o h2 (sx3 b o h1 (f2 b o h1 h2 h)),hi,⟨tb3,sx4 _ _ hde hT3,ul dn (eX z.2),he4,hS4,λj y hj hy=>?_,⋯,⋯⟩,_,_,rfl⟩
     by_cases ej:j=i
     ·subst ej
      rw[hqi]at hy;cases hy
      exact j_.mpr (.inr (uI.mpr ⟨0,⋯,rfl⟩))
     ·exact j_.mpr (.inl (hdn j y ⋯ hy))
  ·rintro σ H2 ⟨f2,_,⟨tb,dn,hT2,he2,hS,hdn,hl1,hl2⟩,x4,x5,rfl⟩
   have all:∀q,bc p r c q->tx (aZ q)∈dn:=λq hq=>by
    obtain⟨j,hj⟩:=List.mem_iff_getElem?.mp ((hsn.1 q).mpr hq);refine hdn j q ?_ hj;have:=(JK.mp hj).1
    rwa [JM]at this ⊢
   rw[JM]at hl1;refine qq H2 tb hT2 ⟨hS.nd,λk v h=>?_,λq hq=>hS.clo q hq (all q hq),⋯⟩ λb o h1 h2 h=>f2 b o h1 h2 (s1 b o h);obtain⟨h1,h2⟩:=hS.key k v h;obtain⟨q,h3,h4⟩:=hS.don _ h1;exact⟨⟨q,h3,d8 h4⟩,h2⟩
abbrev jU:Stmt:=gW 52
inductive fK(K:W.Frag)(R:RC)(CG:Addr)(vs:List V)(H:Hp)(Q:VK)(_E:XK):Prop
 |mk (g dx a:Addr) (sg st:KI) (as:KM) (rs:Yaa) (nms:List (List Nat)) (p:aF) (r c:Nat) (_:vs=[.ref g,.ref a]) (_:cO R H CG dx g sg st as rs) (_:(bd (tx st) rs).map (·.1)=nms.map tx) (_:kq rs nms p r c) (_:aQ K H a (ar p)) (_:∀d H' tb,H d=none->bT H' d tb->vk rs nms p r c tb->aD H H'->Q (.ref d) H')
theorem t_:aB ["grammar","picture","told"] ["grammar","picture"] (ak jU):=by walk_at "c"
theorem uo{R:RC}{f CG:Addr}{fd:KO}(F:dw K "table_of" "table_of" jU f fd)(nb:NB mg)(yaQ:dL P w K mg base bB 9 "enter_seen" ["grammar","picture","told","done"] (jw K R CG)):aR P w K mg base bB 10 f fd ["grammar","picture"] (fK K R CG):=by
 have sc:=t_;walk_at "f"
 ·obtain⟨g,dx,a,sg,st,as,rs,nms,p,r,c,rfl,_⟩:=h;rfl
 ·obtain⟨g,dx,a,sg,st,as,rs,nms,p,r,c,rfl,hG,hnm,hE,hSq,qq⟩:=h
  refine⟨_,(af (aH (i:=2) sc.nd rfl (Or.inl rfl) AU)
   (af (bw (aE yaQ (hr.mono nofun) rfl aM (ac (al 0) (ac (al 1) (ac (al 2) (ac oz ad))))))
   (ag (aJ (al 2))))),?_⟩
  walk_at "wp";intro d hd e he;have s1:=aj (o:=.dT []) hd;have e1:bT (aC H d (.dT [])) d []:=ae;generalize aC H d (.dT [])=H1 at s1 e1 he ⊢;have s2:=aj (o:=.dK []) he;have e2:aC H1 e (.dK []) e=some (.dK []):=ae;generalize aC H1 e (.dK [])=H2 at s2 e2 ⊢;refine⟨g,dx,a,d,e,sg,st,as,rs,nms,p,r,c,rfl,hG.up (s1.trans s2),hnm,hE,(s1.trans s2).seq hSq,e1.up s2,e2,λH' tb hT hB f2=>?_⟩;exact qq d H' tb hd hT hB λb o h=>f2 b o (av h hd) (av (s1 b o h) he) (s2 b o (s1 b o h))
theorem lQ{z:Str}:∀{m:List (Str×List Nat)},z∉m.map (·.1)->m.lookup z=none
 | [],_=>rfl
 |q::m,h=>by
  rw[Kc,J0,not_or]at h;rw[List.lookup_cons,show(z==q.1)=false from beq_eq_false_iff_ne.mpr h.1];exact lQ h.2
theorem Dx{z y:Str}{rs:Yaa}(h:y∈(bd z rs).map (·.1)):(bd z rs).lookup y=some (idxOf y rs):=by
 obtain⟨q,hq,rfl⟩:=Kt.mp h;exact(DB hq).1
abbrev g6:Stmt:=gW 49
inductive jq(R:RC)(CG CN_:Addr)(vs:List V)(H:Hp)(Q:VK)(E:XK):Prop
 |mk (g dx:Addr) (sg st:KI) (as:KM) (rs:Yaa) (v:V) (_:vs=[.ref g,v]) (_:cO R H CG dx g sg st as rs) (_:((v=.non/\Q (.str (tx st)) H)\/∃z,v=.str z/\(∀ns,(bd (tx st) rs).lookup z=some ns->∀H',aD H H'->Q (.str z) H')/\((bd (tx st) rs).lookup z=none->E (.ref CN_) none H)))
theorem pc:aB ["grammar","name"] ["grammar","name"] (ak g6):=by walk_at "c"
theorem oX{R:RC}{f CG CN_:Addr}{fd:KO}(F:dw K "name_asked" "name_asked" g6 f fd)(nb:NB mg)(cl:iQ K CG)(na:ax K CG "signs"/\ax K CG "start"/\ax K CG "kept"/\ax K CG "numbers")(yaO:ig P w K mg base (dz P w) 1 CG "numbers_of" ["self","name"] (du R CG CN_)):aR P w K mg base (dz P w) 2 f fd ["grammar","name"] (jq R CG CN_):=by
 have sc:=pc;walk_at "x"
 ·obtain⟨g,dx,sg,st,as,rs,v,rfl,_⟩:=h;rfl
 ·obtain⟨g,dx,sg,st,as,rs,v,rfl,hG,h⟩:=h
  have hu:=hr.units;obtain⟨lk,pn,t,ha,hk,hrs,hN,hm⟩:=id hG;refine⟨_,(af (ce (br EL (al 1) wJ (bO _))
   (ag (aJ (bK (al 0) rfl)))
   bu)
   (af (bw (mL yaO (hr.mono nofun) (dN λ_ _ _ h=>h) (al 0) (ac (al 1) ad)))
   (ag (aJ (al 1))))),?_⟩
  walk_at "wp";rcases h with⟨rfl,q⟩ | ⟨z,rfl,q1,q2⟩
  ·rw[if_pos rfl]
   exact⟨_,_,_,ha,cl,na.2.1,_,rfl,q⟩
  ·rw[if_neg (λh=>nomatch h)]
   exact⟨_,_,ha,rfl,g,dx,sg,st,as,rs,z,rfl,hG,λns hns l H' _ _ s'=>q1 ns hns H' s',q2⟩
abbrev gI:Stmt:=gW 51
inductive ju(K:W.Frag)(R:RC)(CG CN_:Addr)(vs:List V)(H:Hp)(Q:VK)(E:XK):Prop
 |mk (g dx a:Addr) (sg st:KI) (as:KM) (rs:Yaa) (nms:List (List Nat)) (p:aF) (r c:Nat) (v:V) (_:vs=[.ref g,.ref a,v]) (_:cO R H CG dx g sg st as rs) (_:(bd (tx st) rs).map (·.1)=nms.map tx) (_:kq rs nms p r c) (_:H a=some (.lst (ar p))) (_:((v=.non/\∀H' tb,vk rs nms p r c tb->aD H H'->Q (qH (aI tb (aZ p,st))) H')\/∃n,v=.str (tx n)/\(n∈nms->∀H' tb,vk rs nms p r c tb->aD H H'->Q (qH (aI tb (aZ p,n))) H')/\(n∉nms->E (.ref CN_) none H)))
theorem oV:aB ["grammar","picture","name","asked"] ["grammar","picture","name"] (ak gI):=by walk_at "c"
theorem pp{R:RC}{f CG CN_ dT:Addr}{fd:KO}(F:Df K "least_cost" "least_cost" gI f fd dT)(nb:NB mg)(yaR:dL P w K mg base (dz P w) 2 "name_asked" ["grammar","name"] (jq R CG CN_))(yai:dL P w K mg base bB 10 "table_of" ["grammar","picture"] (fK K R CG))(yab:dL P w K mg base bB 1 "shown" ["picture"] (dX K)):aR P w K mg base (dz P w) 11 f fd ["grammar","picture","name"] (ju K R CG CN_):=by
 have sc:=oV;walk_at "x"
 ·obtain⟨g,dx,a,sg,st,as,rs,nms,p,r,c,v,rfl,_⟩:=h;rfl
 ·obtain⟨g,dx,a,sg,st,as,rs,nms,p,r,c,v,rfl,hG,hnm,hE,ha,h⟩:=h
  have hu:=hr.units;refine⟨_,(af (aH (i:=3) sc.nd rfl (Or.inl rfl) (aE (E:=E) yaR (hr.mono nofun) rfl (dN λ_ _ _ h=>h) (ac (al 0) (ac (al 2) ad))))
   (ag (aJ (vb (Kq (Kv (by decide:1<=64) _) hu) (aE (CX:=dz P w) yai.lift (hr.mono nofun) rfl bY (ac (al 0) (ac (al 1) ad))) (bJ (ac (aE (CX:=dz P w) yab.lift (hr.mono nofun) rfl bY (ac (al 1) ad)) (ac (al 3) ad))) ⟨rfl,rfl,rfl,rfl⟩)))),?_⟩
  walk_at "wp";have small:dH p:=dH.of hE.hp (by have:=hE.r6;omega) (by have:=hE.c6;omega);have aY:∀(n:KI) (H1:Hp),aD H H1->(∀H' tb,vk rs nms p r c tb->aD H H'->Q (qH (aI tb (aZ p,n))) H')->fK K R CG [V.ref g,V.ref a] H1 (λx H1_1=>∃a_1,x=V.ref a_1/\Gc H1_1 a_1/\dX K [V.ref a] H1_1 (λx_1 H1=>2<=sizeLine/\∀(p:Addr),H1 p=none->∃o,kD (aC H1 p (HO.tup [x_1,V.str (tx n)])) a_1 (V.ref p) o/\Q (o.getD V.non) (aC H1 p (HO.tup [x_1,V.str (tx n)]))) (λx x_2 x_3=>False)) (λx x_2 x_3=>False):=λn H1 s1 q=>by
   refine⟨g,dx,a,sg,st,as,rs,nms,p,r,c,rfl,hG.up s1,hnm,hE,aQ.of (s1 _ _ ha),λd H2 tb hd hT hB s2=>⟨d,rfl,.inr ⟨_,.inl hT⟩,a,p,rfl,(s1.trans s2) _ _ ha,small,au nofun,λtp htp=>?_⟩⟩;have hk:aT (aC H2 tp (.tup [V.str (tx (aZ p)),V.str (tx n)])) tp (aZ p,n):=ae;refine⟨_,(hT.up (aj htp)).told.get hk,?_⟩;rw[show((aI tb (aZ p,n)).map V.int).getD V.non=qH (aI tb (aZ p,n)) by cases aI tb (aZ p,n)<;>rfl];exact q _ tb hB ((s1.trans s2).trans (aj htp))
  refine⟨g,dx,sg,st,as,rs,v,rfl,hG,?_⟩;rcases h with⟨rfl,q⟩ | ⟨n,rfl,q1,q2⟩
  ·exact .inl ⟨rfl,aY st H (λ_ _ h=>h) q⟩
  ·refine .inr ⟨tx n,rfl,λns hns H1 s1=>aY n H1 s1 (q1 ?_),λhno=>q2 ?_⟩
   ·have:tx n∈(bd (tx st) rs).map (·.1):=Classical.byContradiction λhm=>by rw[lQ hm]at hns;cases hns
    rw[hnm]at this;obtain⟨m,hm,e⟩:=Kt.mp this;rw[<- d8 e];exact hm
   ·intro hm
    have:tx n∈(bd (tx st) rs).map (·.1):=by rw[hnm];exact Kt.mpr ⟨n,hm,rfl⟩
    rw[Dx this]at hno;cases hno
abbrev n_:Stmt:=gW 59
inductive kK(K:W.Frag)(vs:List V)(H:Hp)(Q:VK)(_E:XK):Prop
 |mk (a:Addr) (ns:List Int) (k:Nat) (_:vs=[.ref a,.int (k:Int)]) (_:aQ K H a (ns.map V.int)) (_:k<=1000) (_:Q (.int (aX ns k)) H)
theorem yO:aB ["_law_script","_law_k","_law_cell_here","_law_mixed"] ["_law_script","_law_k"] (ak n_):=by walk_at "c"
theorem yc{f:Addr}{fd:KO}(F:dw K "_law_cell" "_law_cell" n_ f fd)(nb:NB mg):aR P w K mg base bB 1 f fd ["_law_script","_law_k"] (kK K):=by
 have sc:=yO;walk_at "f"
 ·obtain⟨a,ns,k,rfl,_⟩:=h;rfl
 ·obtain⟨a,ns,k,rfl,hS,hk,q⟩:=h
  refine⟨_,(af (aH (i:=2) sc.nd rfl (Or.inl rfl) am)
   (af (ce (br uk (pv 1) (aP cI rfl nb.len b_ (ac (pv 0) ad)) (bO _))
   (ag (aH (i:=2) sc.nd rfl (Or.inl rfl) (cR sj (pv 0) (pv 1) (λ_ _=>rfl))))
   bu)
   (af (aH (i:=3) sc.nd rfl (Or.inl rfl) (az bG (az cK (az bi (az bi (az bG (pv 2) am) (az cK am (pv 1))) am) am) am))
   (ag (aJ (az bi (az cK (az cj (pv 2) am) am) (az bG (az bi (az cK (pv 3) am) (pv 1)) am))))))),?_⟩
  walk_at "wp";refine⟨_,hS,?_⟩;rw[JM];unfold aX at q
  split
  ·rename_i hlt
   have hlt':k<ns.length:=by omega
   rw[List.getD_eq_getElem?_getD,JJ hlt',Option.getD_some]at q;refine⟨_,hS,V.int ns[k],ci (by rw[JO,JJ hlt'];rfl),?_⟩;walk_at "wp";exact q
  ·rename_i hlt
   rw[List.getD_eq_getElem?_getD,List.getElem?_eq_none ⋯,Option.getD_none]at q;exact q
def wq(d s m:Nat):List Nat:=(List.range (1+m)).map λi=>97+(d+(1+2*s)*i)%26
theorem Cf:∀d,d<26->∀s,s<6->∀m,m<4->jL (wq d s m)=true:=by decide +kernel
structure DE(r:KI):Prop where
 ok:jL r=true
 one:∀c∈r,iz [c]=true
 nd:r.Nodup
 ns:47∉r
def F':List Nat->Bool
 | []=>true
 |x::r=>!r.contains x&&F' r
theorem AG:∀{r:KI},F' r=true->r.Nodup
 | [],_=>List.nodup_nil
 |x::r,h=>by
  unfold F' at h;rw[Bool.and_eq_true]at h;exact List.nodup_cons.mpr ⟨by simpa using h.1,AG h.2⟩
theorem EN:∀d,d<26->∀s,s<6->∀m,m<4->((wq d s m).all (λc=>iz [c])&&F' (wq d s m) && !(wq d s m).contains 47)=true:=by decide +kernel
theorem BL:∀n,n<26->(Str.ofString "abcdefghijklmnopqrstuvwxyz").cps.toList[n]?=some (97+n):=by decide +kernel
def cH(r:KI):aF:=r.map λc=>[c]
abbrev lL:Stmt:=gW 62
inductive oO(vs:List V)(H:Hp)(Q:VK)(_E:XK):Prop
 |mk (c:Int) (m:Nat) (_:vs=[.int c,.int (1+(m:Int))]) (_:m<4) (_:∀(l:Addr) (r:KI) (H':Hp),H l=none->H' l=some (.lst (ar (cH r)))->DE r->r.length=1+m->aD H H'->Q (.ref l) H')
theorem wI:aB ["_law_cell_here","_law_many","_law_letters","_law_step"] ["_law_cell_here","_law_many"] (ak lL):=by walk_at "c"
theorem vU{f:Addr}{fd:KO}(F:dw K "_law_signs" "_law_signs" lL f fd)(nb:NB mg):aR P w K mg base bB 1 f fd ["_law_cell_here","_law_many"] oO:=by
 have sc:=wI;walk_at "f"
 ·obtain⟨c,m,rfl,_⟩:=h;rfl
 ·obtain⟨c,m,rfl,m2,q⟩:=h
  refine⟨_,(af (aH (i:=2) sc.nd rfl (Or.inr rfl) n0)
   (af (aH (i:=3) sc.nd rfl (Or.inr rfl) (az (bx.m0 bi) am (az (bx.m1 cK) am (az (bx.m1 bG) (az (bx.m1 cj) (al 0) am) am))))
   (ag (aJ (c5 ["_law_k"] [2,0,3] rfl (bH.of (by kernel_rfl)) (by kernel_rfl) (cB rfl nb.range (ac (al 1) ad))
    (λ_ _ _ _=>(aA (i:=0) (by show(["_law_k","_law_letters","_law_cell_here","_law_step"]:List Str).Nodup;decide +kernel) rfl (Or.inl rfl))) (λ_ _ _ _=>cN) (λ_ _ _ _=>(cR tK (al 1) (az (bx.m1 bG) (az (bx.m0 bi) (az (bx.m1 bG) (al 2) am) (az (bx.m1 cK) (al 3) (al 0))) am) (λ_ _=>rfl)))))))),?_⟩
  obtain⟨s6,hs6⟩:∃m:Nat,c/26%6=(m:Int):=⟨_,(KA (Kz _ ⋯)).symm⟩;obtain⟨d,hd⟩:∃m:Nat,c%26=(m:Int):=⟨_,(KA (Kz _ ⋯)).symm⟩;have s2:s6<6:=by omega
  have d2:d<26:=by omega
  walk_at "n";refine h1 _ _ ?_;walk_at "nc";rw[hs6];refine h1 _ _ ?_;clear h1;walk_at "wp";have en:(1+(m:Int)).toNat=1+m:=by omega
  rw[en];refine⟨⋯,⋯,?_⟩;have chr:∀i:Nat,(c%26+(1+2*(s6:Int))*(i:Int))%26=(((d+(1+2*s6)*i)%26:Nat):Int):=λi=>by
   rw[hd];push_cast;rfl
  refine iB (n:=1+m) (f:=λi=>some (V.str ⟨#[97+(d+(1+2*s6)*i)%26]⟩)) (λσ=>∃x,σ=[x,some (.str "abcdefghijklmnopqrstuvwxyz"),some (.int c),some (.int (1+2*(s6:Int)))]) ⟨_,rfl⟩ ⋯ ?_ ?_
  ·rintro i hi σ H' N1 N0 ⟨y,rfl⟩ sm k1 k0
   walk_at "wp";refine⟨.inl ⟨⋯,⋯⟩,nofun,97+(d+(1+2*s6)*i)%26,?_,k1 _ _ _ rfl sm ⟨_,rfl⟩⟩;rw[chr i];exact ci (BL _ (Nat.mod_lt _ ⋯))
  ·intro H' sm l hl
   rw[mY];have e0:(List.range (1+m)).map (λi=>V.str ⟨#[97+(d+(1+2*s6)*i)%26]⟩)=ar (cH (wq d s6 m)):=by
    unfold wq ar cH;rw[JZ,JZ];rfl
   rw[e0];have so:=EN d d2 s6 s2 m m2;rw[Bool.and_eq_true,Bool.and_eq_true]at so;exact q l _ _ (sm.free hl) ae ⟨Cf d d2 s6 s2 m m2,Ku.mp so.1.1,AG so.1.2,by simpa using so.2⟩ (by unfold wq;rw[JM,List.length_range]) (sm.trans (aj hl))
theorem BO(r s:KI):tx r++tx s=tx (r++s):=by
 show(⟨r.toArray++s.toArray⟩:Str)=⟨(r++s).toArray⟩;simp
theorem BR:∀n,n<26->(Str.ofString "ABCDEFGHIJKLMNOPQRSTUVWXYZ").cps.toList[n]?=some (65+n):=by decide +kernel
def Dz(c:Nat):Bool:=Fx Eo c
theorem B7:∀n,n<26->Dz (65+n)=true:=by decide +kernel
theorem Fo(x:Int):∃n:Nat,n<26/\x%26=(n:Int):=⟨(x%26).toNat,⋯,⋯⟩
theorem sI{r:KI}(h:∀x∈r,Dz x=true)(h1:1<=r.length)(h4:r.length<=4):df r=true:=by
 have hall:r.all (Fx Eo)=true:=Ku.mpr h;unfold df jp;rw[hall];simp;omega
abbrev k9:Stmt:=gW 61
inductive oB(vs:List V)(H:Hp)(Q:VK)(_E:XK):Prop
 |mk (c:Int) (m:Nat) (_:vs=[.int c,.int (1+(m:Int))]) (_:m<4) (_:∀(l:Addr) (p:aF) (H':Hp),H l=none->H' l=some (.lst (ar p))->p.length=1+m->(∀r∈p,df r=true)->aD H H'->Q (.ref l) H')
theorem wt:aB ["_law_cell_here","_law_many","_law_letters","_law_start","_law_step","_law_extra","_law_names_here","_law_k","_law_letter"] ["_law_cell_here","_law_many"] (ak k9):=by walk_at "c"
theorem wu{f:Addr}{fd:KO}(F:dw K "_law_names" "_law_names" k9 f fd)(nb:NB mg):aR P w K mg base bB 1 f fd ["_law_cell_here","_law_many"] oB:=by
 have sc:=wt;walk_at "f"
 ·obtain⟨c,m,rfl,_⟩:=h;rfl
 ·obtain⟨c,m,rfl,m2,q⟩:=h
  refine⟨_,(af (aH (i:=2) sc.nd rfl (Or.inr rfl) n0)
   (af (aH (i:=3) sc.nd rfl (Or.inr rfl) (az (bx.m1 bG) (az (bx.m1 cj) (al 0) am) am))
   (af (aH (i:=4) sc.nd rfl (Or.inl rfl) (az (bx.m0 bi) am (az (bx.m1 cK) am (az (bx.m1 bG) (az (bx.m1 cj) (al 0) am) am))))
   (af (ce (br jZ (az (bx.m1 bG) (az (bx.m1 cj) (al 0) am) am) am (bO _))
   (ag (aJ (c5 ["_law_k"] [2,3] rfl (bH.of (by kernel_rfl)) (by kernel_rfl) (cB rfl nb.range (ac (al 1) ad))
    (λ_ _ _ _=>(aA (i:=0) (by show(["_law_k","_law_letters","_law_start"]:List Str).Nodup;decide +kernel) rfl (Or.inl rfl))) (λ_ _ _ _=>cN) (λ_ _ _ _=>(az xS (cR tK (al 1) (al 2) (λ_ _=>rfl)) (az (bx.m0 bi) am (al 0)))))))
   bu)
   (af (aH (i:=5) sc.nd rfl (Or.inl rfl) (cR cW (bE (b5 (b5 (b5 (b5 ad))))) (az (bx.m1 bG) (al 0) am) (λ_ _=>rfl)))
   (af (aH (i:=6) sc.nd rfl (Or.inl rfl) (bE ad))
   (af (bj PassesOwn.never rfl (cB rfl nb.range (ac (al 1) ad)) (aA (i:=7) sc.nd rfl (Or.inl rfl))
   (af (aH (i:=8) sc.nd rfl (Or.inl rfl) (cR tK (al 2) (az (bx.m1 bG) (az (bx.m0 bi) (al 3) (az (bx.m1 cK) (al 4) (al 7))) am) (λ_ _=>rfl)))
   (ag (bw (eC PySem.F.plainAttrs_list PySem.F.slot_list_append PySem.F.type_list_append bX (al 6) (ac (cR cW (bE (ac (az nZ (al 8) (al 5)) (ac (az nZ (al 5) (al 8)) ad))) (az (bx.m1 bG) (az (bx.m1 cj) (al 0) am) am) (λ_ _=>rfl)) ad))))))
   (ag (aJ (al 6)))))))))),?_⟩
  obtain⟨d,d2,hd⟩:=Fo (c/4);obtain⟨s6,hs6⟩:∃m:Nat,c/104%6=(m:Int):=⟨_,(KA (Kz _ ⋯)).symm⟩;walk_at "n";refine h1 _ _ ?_;walk_at "nc";rw[hd];refine h1 _ _ ?_;walk_at "nc";rw[hs6];refine h1 _ _ ?_;walk_at "nc";refine mW (λhc=>?_) (λhc=>h1 _ _ ?_)
  ·rw[show(1+(m:Int)).toNat=1+m by omega]
   refine⟨⋯,⋯,?_⟩;refine iB (n:=1+m) (f:=λi=>some (V.str (tx (List.replicate (1+i) [65+d]).flatten))) (λσ=>∃x,σ=[x,some (.str "ABCDEFGHIJKLMNOPQRSTUVWXYZ"),some (.int (d:Int))]) ⟨_,rfl⟩ ⋯ ?_ ?_
   ·rintro i hi σ H' N1 N0 ⟨y,rfl⟩ sm k1 k0
    walk_at "wp";exact⟨nofun,_,ci (BR d d2),[65+d],rfl,1+i,by push_cast;rfl,⋯,⋯,by simp,k1 _ _ _ rfl sm ⟨_,rfl⟩⟩
   ·intro H' sm l hl
    rw[mY];have e0:(List.range (1+m)).map (λi=>V.str (tx (List.replicate (1+i) [65+d]).flatten))=ar ((List.range (1+m)).map λi=>(List.replicate (1+i) [65+d]).flatten):=by
     unfold ar;rw[JZ];rfl
    rw[e0];refine q l _ _ (sm.free hl) ae (by rw[JM,List.length_range]) (λr hr=>?_) (sm.trans (aj hl));obtain⟨i,hi,rfl⟩:=Kt.mp hr;have hi:=List.mem_range.mp hi;refine sI (λx hx=>?_) (by rw[kg];simp) (by rw[kg];simp;omega);obtain⟨y,hy,hx⟩:=List.mem_flatten.mp hx;rw[List.eq_of_mem_replicate hy]at hx;rw[JN.mp hx];exact B7 d d2
  ·walk_at "n"
   refine⟨au nofun,λp1 hp1=>?_⟩;generalize z0:aC H p1 _=H1;obtain⟨s1,e1⟩:=iH hp1 z0;obtain⟨ex,hex,hx1,hx2⟩:∃ex:List Nat,vq [V.str (Str.ofString ""),V.str (Str.ofString "Q"),V.str (Str.ofString "ZA"),V.str (Str.ofString "MMX")] (c%4)=some (.str (tx ex))/\(∀x∈ex,Dz x=true)/\ex.length<=3:=by
    rcases(by omega:c%4=0\/c%4=1\/c%4=2\/c%4=3) with h | h | h | h<;>rw[h]
    ·exact⟨[],rfl,(λx hx=>nomatch hx),nofun⟩
    ·exact⟨[81],rfl,by decide +kernel,nofun⟩
    ·exact⟨[90,65],rfl,by decide +kernel,nofun⟩
    ·exact⟨[77,77,88],rfl,by decide +kernel,nofun⟩
   refine⟨_,aQ.of e1,_,hex,h1 _ _ ?_⟩;walk_at "nc";refine⟨J9 _,λln hln=>h1 _ _ ?_⟩;clear h1;have s2:=aj (o:=.lst []) hln;have e2:aC H1 ln (.lst []) ln=some (.lst []):=ae;have sA:=s1.trans s2;have hln0:=s1.free hln;generalize aC H1 ln (.lst [])=H2 at s2 e2 sA ⊢;walk_at "n";rw[show(1+(m:Int)).toNat=1+m by omega];refine⟨⋯,⋯,?_⟩;refine b7 (lo:=0) (n:=1+m) (λi σ H'=>aD H H'/\(∃p:aF,H' ln=some (.lst (ar p))/\p.length=i/\∀r∈p,df r=true)/\∃x y,σ=[some (V.int c),some (V.int (1+(m:Int))),some (V.str (Str.ofString "ABCDEFGHIJKLMNOPQRSTUVWXYZ")),some (V.int (d:Int)),some (V.int (1+2*(s6:Int))),some (V.str (tx ex)),some (V.ref ln),x,y]) ⟨sA,⟨[],e2,rfl,λr hr=>nomatch hr⟩,_,_,rfl⟩ ?_ ?_
   ·rintro i σ H' hi ⟨sm',⟨p,hp,pl,pn⟩,x,y,rfl⟩
    walk_at "n";obtain⟨n,hn1,hn2⟩:=Fo ((d:Int)+(1+2*(s6:Int))*(i:Int));refine⟨.inr ⟨⋯,⋯⟩,nofun,65+n,by rw[hn2];exact ci (BR n hn1),h1 _ _ ?_⟩;clear h1;change xo _ _ _ _;generalize hz:(⟨#[65+n]⟩:Str)=z;walk_at "wp";have hz':z=tx [65+n]:=hz.symm;subst hz';have hl1:(tx [65+n]).length=1:=rfl;have hl2:(tx ex).length<=3:=by rw[aG];exact hx2
    refine⟨.inl ⟨rfl,_,aQ.of hp⟩,au ⋯,au ⋯,au nofun,λl3 hl3=>?_⟩;generalize z0:aC H' l3 _=H3;obtain⟨s3,e3⟩:=iH hl3 z0;obtain⟨nm,hnm,hn⟩:∃nm:List Nat,vq [V.str (tx [65+n]++tx ex),V.str (tx ex++tx [65+n])] (c/624%2)=some (.str (tx nm))/\df nm=true:=by
     have all1:∀x∈[65+n],Dz x=true:=λx hx=>by rw[JN.mp hx];exact B7 n hn1
     rcases(by omega:c/624%2=0\/c/624%2=1) with h | h<;>rw[h]
     ·exact⟨[65+n]++ex,by rw[<- BO];rfl,sI (λx hx=>(JY.mp hx).elim (all1 x) (hx1 x)) (by simp) (by simp;omega)⟩
     ·exact⟨ex++[65+n],by rw[<- BO];rfl,sI (λx hx=>(JY.mp hx).elim (hx1 x) (all1 x)) (by simp) (by simp;omega)⟩
    refine⟨_,aQ.of e3,_,hnm,_,s3 _ _ hp,by rw[aq,pl];exact bh ⋯,bQ (sm'.trans s3) hln0,p++[nm],by rw[ae,cD],by rw[J7,pl];rfl,λr hr=>?_⟩;rcases JY.mp hr with h | h
    ·exact pn r h
    ·rw[JN.mp h];exact hn
   ·rintro σ H' ⟨sm',⟨p,hp,pl,pn⟩,x,y,rfl⟩
    refine h1 _ _ ?_;walk_at "wp";exact q ln p H' hln0 hp pl pn sm'
theorem oi(r:KI):(cH r).flatten=r:=by
 induction r with
 |nil=>rfl
 |cons c r ih=>show c::(cH r).flatten=_;rw[ih]
theorem bg.snoc20{R:RC}{H:Hp}{as:KM}{rs:Yaa}{b:Addr}{r:Nat×RV}(h:bg R H as rs)(hb:fT R H r.1 b r.2):bg R H (as++[b]) (rs++[r]):=by
 refine⟨by rw[J7,J7,h.1];rfl,λi a x e1 e2=>?_⟩
 by_cases hi:i<as.length
 ·rw[J6 hi]at e1
  rw[J6 (by rw[<- h.1];exact hi)]at e2;exact h.2 i a x e1 e2
 ·have hl:=(JK.mp e1).1
  rw[J7,List.length_singleton]at hl;have hh:=h.1;rw[J5 ⋯,show i-as.length=0 by omega]at e1;rw[J5 ⋯,show i-rs.length=0 by omega]at e2;cases e1;cases e2
  exact hb
theorem bg.put20{R:RC}{H:Hp}{lr:Addr}{bs:KM}{o:HO}{as:KM}{rs:Yaa}(h:bg R H as rs)(hl:H lr=some (.lst (bs.map V.ref)))(hx:as=[]\/∃b,b∈bs):bg R (aC H lr o) as rs:=by
 refine⟨h.1,λi a r e1 e2=>?_⟩;obtain⟨dx,l,h1,h2⟩:=h.2 i a r e1 e2;refine⟨dx,l,by rw[ai (λz=>by rw[z,hl]at h1;cases h1)];exact h1,?_⟩;rw[ai (λz=>?_)]
 ·exact h2
 ·rw[z,hl]at h2
  injection h2 with h2
  injection h2 with h2
  rcases hx with hx | ⟨b,hb⟩
  ·rw[hx]at e1;simp at e1
  ·have:V.ref b∈ar (bR r.1 r.2):=by rw[<- h2];exact Kt.mpr ⟨b,hb,rfl⟩
   unfold ar at this;obtain⟨y,_,e⟩:=Kt.mp this;cases e
abbrev iw:Stmt:=gW 63
inductive ky(R:RC)(CG:Addr)(vs:List V)(H:Hp)(Q:VK)(_E:XK):Prop
 |mk (l la:Addr) (r st:KI) (ts:KM) (rs:Yaa) (_:vs=[.ref la,.str (tx st),.ref l]) (_:H la=some (.lst (ar (cH r)))) (_:Eu H l ts rs) (_:(∀r∈rs,pP r)) (_:rs.length<=24) (_:r.length<=4) (_:st.length<=100) (_:iD r st rs=none) (_:∀b db as H',cO R H' CG db b r st as rs->aD H H'->Q (.ref b) H')
theorem sW:aB ["_law_signs_here","_law_start","_law_rules","_law_made","_law_kind","_law_name","_law_cost","_law_one","_law_other"] ["_law_signs_here","_law_start","_law_rules"] (ak iw):=by walk_at "c"
theorem qS{R:RC}{f CG zca CF:Addr}{fd:KO}(F:dw K "_law_grammar" "_law_grammar" iw f fd)(nb:NB mg)(rk:lB K R)(gk:G7 K CG)
  (zob:lI P w K mg base (dz P w) 4 "CellRule" R.cc ["self","name","cost","sign"] (gU K CF)) (zWa:lI P w K mg base (dz P w) 4 "BesideRule" R.cb ["self","name","cost","one","other"] (cZ K CF))
  (zab:lI P w K mg base (dz P w) 4 "AboveRule" R.ca ["self","name","cost","one","other"] (cZ K CF)) (zpb:lI P w K mg base (dz P w) 4 "TurnRule" R.ct ["self","name","cost","part","turning"] (gR K CF)) (zAb:lI P w K mg base (dz P w) 4 "Grammar" CG ["self","signs","start","rules"] (gN K R zca)):aR P w K mg base bB 6 f fd ["_law_signs_here","_law_start","_law_rules"] (ky R CG):=by
 have sc:=sW;walk_at "f"
 ·obtain⟨l,la,r,st,ts,rs,rfl,_⟩:=h;rfl
 ·obtain⟨l,la,r,st,ts,rs,rfl,hla,o,hg,hn,hsg,hst,g0,q⟩:=h
  have hu:=hr.units;refine⟨_,(af (aH (i:=3) sc.nd rfl (Or.inl rfl) (bE ad))
   (af (bj PassesOwn.never rfl (bD (al 2)) (jE (n:=5) rfl (aS (aA (i:=4) sc.nd rfl (Or.inl rfl)) (aS (aA (i:=5) sc.nd rfl (Or.inl rfl)) (aS (aA (i:=6) sc.nd rfl (Or.inl rfl)) (aS (aA (i:=7) sc.nd rfl (Or.inl rfl)) (aS (aA (i:=8) sc.nd rfl (Or.inl rfl)) dU))))))
   (ag (ce (br jZ (al 4) am (bO _))
   (ag (bw (eC PySem.F.plainAttrs_list PySem.F.slot_list_append PySem.F.type_list_append bX (al 3) (ac (i5 (CX:=dz P w) zob (hr.mono nofun) rfl bY (ac (al 5) (ac (al 6) (ac (al 7) ad)))) ad))))
   (ag (ce (br jZ (al 4) am (bO _))
   (ag (bw (eC PySem.F.plainAttrs_list PySem.F.slot_list_append PySem.F.type_list_append bX (al 3) (ac (i5 (CX:=dz P w) zWa (hr.mono nofun) rfl bY (ac (al 5) (ac (al 6) (ac (al 7) (ac (al 8) ad))))) ad))))
   (ag (ce (br jZ (al 4) am (bO _))
   (ag (bw (eC PySem.F.plainAttrs_list PySem.F.slot_list_append PySem.F.type_list_append bX (al 3) (ac (i5 (CX:=dz P w) zab (hr.mono nofun) rfl bY (ac (al 5) (ac (al 6) (ac (al 7) (ac (al 8) ad))))) ad))))
   (ag (bw (eC PySem.F.plainAttrs_list PySem.F.slot_list_append PySem.F.type_list_append bX (al 3) (ac (i5 (CX:=dz P w) zpb (hr.mono nofun) rfl bY (ac (al 5) (ac (al 6) (ac (al 7) (ac (al 8) ad))))) ad)))))))))))
   (ag (aJ (i5 (CX:=dz P w) zAb (hr.mono nofun) rfl bY (ac (@qk _ _ _ _ _ _ _ _ (ac (al 0) ad) rfl rfl) (ac (al 1) (ac (al 3) ad)))))))),?_⟩
  walk_at "n";refine⟨J9 _,λlm hlm=>h1 _ _ ?_⟩;clear h1;generalize z0:aC H lm _=H1;obtain⟨s1,e1⟩:=iH hlm z0;walk_at "n";refine⟨⟨_,aQ.of (s1 _ _ o.1)⟩,?_⟩;have hol:=o.2.1;refine bZ (xs:=ts.map V.ref) (λi σ H'=>aD H H'/\i<=ts.length/\(∃as:List Addr,H' lm=some (.lst (as.map V.ref))/\bg R H' as (rs.take i))/\∃x4 x5 x6 x7 x8,σ=[some (V.ref la),some (V.str (tx st)),some (V.ref l),some (V.ref lm),x4,x5,x6,x7,x8]) ⟨s1,J9 _,⟨[],e1,⟨rfl,λi a r e=>by simp at e⟩⟩,_,_,_,_,_,rfl⟩ (λi σ H' _ h=>aQ.of (h.1 _ _ o.1)) ?_ ?_
  ·rintro i x σ H' hx ⟨sm,_,⟨as,has,hA⟩,x4,x5,x6,x7,x8,rfl⟩
   rw[JO]at hx;obtain⟨t,ht,rfl⟩:=Ka.mp hx;have hi:=(JK.mp ht).1;obtain⟨⟨k,v⟩,hr⟩:∃r,rs[i]?=some r:=⟨_,JJ ⋯⟩;have ht':=sm _ _ (o.2.2 i t (k,v) ht hr);obtain⟨hk,g,smv⟩:=hg _ (JP hr);have sq:=jv.of (K:=K) ht';have g:v.good:=g;have bn:v.n.length<=100000:=by have:=smv.n;simp only at this;omega
   have b1:v.o1.length<=100000:=by have:=smv.o1;simp only at this;omega
   have b2:v.o2.length<=100000:=by have:=smv.o2;simp only at this;omega
   have bs:v.sg.length<=100000:=by have:=smv.sg;simp only at this;omega
   have hal:=hA.1;rw[Kk]at hal;have htk:rs.take (i+1)=rs.take i++[(k,v)]:=by rw[List.take_add_one,hr];rfl
   have fin:∀b dx pl H2,H2 b=some (.ins (R.at k) dx (rR k pl v))->H2 pl=some (.lst (ar (bR k v)))->pl≠lm->aD H' H2->∃xs,H2 lm=some (.lst xs)/\xs.length<sizeLine/\aD H (aC H2 lm (.lst (xs++[V.ref b])))/\i+1<=ts.length/\∃as,aC H2 lm (.lst (xs++[V.ref b])) lm=some (.lst (as.map V.ref))/\bg R (aC H2 lm (.lst (xs++[V.ref b]))) as (rs.take (i+1)):=λb dx pl H2 hb hpl hne s2=>by
    have h2:=s2 _ _ has;refine⟨_,h2,by rw[JM];exact bh ⋯,bQ (sm.trans s2) hlm,hi,as++[b],by rw[ae,JX];rfl,?_⟩;rw[htk];refine bg.snoc20 ((hA.up s2).put20 h2 ?_) ⟨dx,pl,by rw[ai (λe=>by rw[e,h2]at hb;cases hb)];exact hb,by rw[ai hne];exact hpl⟩;cases as with
    |nil=>exact .inl rfl
    |cons a as=>exact .inr ⟨a,List.mem_cons_self ..⟩
   have sN:∀{x dx:Addr} {C:Addr},H' x=none->H' dx=none->dx≠x->∀{pl:Addr},aC (aC H' dx (.own x)) x (.ins C dx []) pl=none->pl≠lm:=fun{x dx C} hx hd hne {pl} hpl e=>by
    rw[e,ai (av has hx),ai (av has hd),has]at hpl;cases hpl
   walk_at "wp";rcases fQ hk with rfl | rfl | rfl | rfl
   ·change jv K H' t [.int 0,.str (tx v.n),.int v.c,.str (tx v.sg),.str ""]at sq
    refine⟨_,sq,rfl,_,_,rfl,_,_,rfl,_,_,rfl,_,_,rfl,_,_,rfl,rfl,rfl,?_⟩;rw[if_pos rfl];exact⟨.inl ⟨rfl,_,aQ.of has⟩,λx dx hx hd hne=>⟨x,R.cc,dx,v.n,v.sg,v.c,rfl,ae,rk.i0.cl,rk.a0,bn,bs,λok pl H2 sx hpl hl' ha=>⟨rfl,fin x dx pl H2 ha hl' (sN hx hd hne hpl) (i4 hx hd sx)⟩,λnok=>absurd (g.ok 0) nok⟩⟩
   ·change jv K H' t [.int 1,.str (tx v.n),.int v.c,.str (tx v.o1),.str (tx v.o2)]at sq
    refine⟨_,sq,rfl,_,_,rfl,_,_,rfl,_,_,rfl,_,_,rfl,_,_,rfl,rfl,rfl,?_⟩;rw[if_neg nofun];refine⟨rfl,?_⟩;rw[if_pos rfl];exact⟨.inl ⟨rfl,_,aQ.of has⟩,λx dx hx hd hne=>⟨x,R.cb,dx,v.n,v.o1,v.o2,v.c,rfl,ae,rk.i1.cl,rk.a1,bn,b1,b2,λok pl H2 sx hpl hl' ha=>⟨rfl,fin x dx pl H2 ha hl' (sN hx hd hne hpl) (i4 hx hd sx)⟩,λnok=>absurd (g.ok 1) nok⟩⟩
   ·change jv K H' t [.int 2,.str (tx v.n),.int v.c,.str (tx v.o1),.str (tx v.o2)]at sq
    refine⟨_,sq,rfl,_,_,rfl,_,_,rfl,_,_,rfl,_,_,rfl,_,_,rfl,rfl,rfl,?_⟩;rw[if_neg nofun];refine⟨rfl,?_⟩;rw[if_neg nofun];refine⟨rfl,?_⟩;rw[if_pos rfl];exact⟨.inl ⟨rfl,_,aQ.of has⟩,λx dx hx hd hne=>⟨x,R.ca,dx,v.n,v.o1,v.o2,v.c,rfl,ae,rk.i2.cl,rk.a2,bn,b1,b2,λok pl H2 sx hpl hl' ha=>⟨rfl,fin x dx pl H2 ha hl' (sN hx hd hne hpl) (i4 hx hd sx)⟩,λnok=>absurd (g.ok 2) nok⟩⟩
   ·change jv K H' t [.int 3,.str (tx v.n),.int v.c,.str (tx v.o1),.int v.t]at sq
    refine⟨_,sq,rfl,_,_,rfl,_,_,rfl,_,_,rfl,_,_,rfl,_,_,rfl,rfl,rfl,?_⟩;rw[if_neg nofun];refine⟨rfl,?_⟩;rw[if_neg nofun];refine⟨rfl,?_⟩;rw[if_neg nofun];exact⟨.inl ⟨rfl,_,aQ.of has⟩,λx dx hx hd hne=>⟨x,R.ct,dx,v.n,v.o1,v.c,v.t,rfl,ae,rk.i3.cl,rk.a3,bn,b1,λok pl H2 sx hpl hl' ha=>⟨rfl,fin x dx pl H2 ha hl' (sN hx hd hne hpl) (i4 hx hd sx)⟩,λnok=>absurd (g.ok 3) nok⟩⟩
  ·rintro σ H' ⟨sm,_,⟨as,has,hA⟩,x4,x5,x6,x7,x8,rfl⟩
   refine h1 _ _ ?_;rw[JM,hol,Kj]at hA;walk_at "wp";refine⟨rfl,(cH r).map tx,.inl (by rw[<- dM];exact aQ.of (sm _ _ hla)),?_,λx dx hx hdx hne=>?_⟩
   ·have h1:=e_ (p:=cH r) (n:=1) λy hy=>by
     obtain⟨c,_,rfl⟩:=Kt.mp hy;exact J8 _
    have h2:(cH r).length=r.length:=by unfold cH;rw[JM]
    have e0:(Str.ofString "").length=0:=rfl;rw[e0];omega
   ·rw[QL.join_nil,oi]
    have sm4:aD H' (aC (aC H' dx (.own x)) x (.ins CG dx [])):=(aj hdx).trans (aj (by rw[ai (Ne.symm hne)];exact hx));refine⟨x,CG,dx,lm,r,st,as,rs,rfl,ae,gk.cl.cl,gk.na,⋯,⋯,sm4 _ _ has,hA.up sm4,λr hr=>(hg r hr).k4,⋯,(λ_ H4 lk pn t sx gA _ _ _=>⟨rfl,?_⟩),λy hy=>nomatch hy.symm.trans g0⟩;exact q x dx _ H4 gA.f (sm.trans λb u e=>sx b u (av e hx) (sm4 b u e))
abbrev oE:Stmt:=gW 64
inductive qj(K:W.Frag)(vs:List V)(H:Hp)(Q:VK)(_E:XK):Prop
 |mk (a:Addr) (p:aF) (_:vs=[.ref a]) (_:H a=some (.lst (ar p))) (_:dH p) (_:Q (.str (tx (aZ p))) H)
theorem zx:aB ["_law_picture_here"] ["_law_picture_here"] (ak oE):=by walk_at "c"
theorem yl{f:Addr}{fd:KO}(F:dw K "_law_text" "_law_text" oE f fd)(nb:NB mg):aR P w K mg base bB 1 f fd ["_law_picture_here"] (qj K):=by
 have sc:=zx;walk_at "f"
 ·obtain⟨a,p,rfl,_⟩:=h;rfl
 ·obtain⟨a,p,rfl,ha,hs,q⟩:=h
  refine⟨_,(ag (aJ (@qk _ _ _ _ _ _ _ _ (ac (al 0) ad) rfl rfl))),?_⟩;walk_at "wp";refine⟨rfl,p.map tx,.inl (by rw[<- dM];exact aQ.of ha),?_,?_⟩
  ·have:=e_ hs.2
   have h1:=hs.1;have e0:(Str.ofString "/").length=1:=rfl;rw[JM,e0];have h2:p.length*64<=64*64:=Nat.mul_le_mul_right _ h1;omega
  ·rw[xw];exact q
def ie(a b s o:Int):Int:=min (o*(a-1)+s*a*(b-1)) (s*(b-1)+o*b*(a-1))
abbrev jT:Stmt:=gW 65
inductive lY(vs:List V)(H:Hp)(Q:VK)(_E:XK):Prop
 |mk (a b s o:Int) (_:vs=[.int a,.int b,.int s,.int o]) (_:1<=a) (_:a<=6) (_:1<=b) (_:b<=6) (_:1<=s) (_:s<=9) (_:1<=o) (_:o<=9) (_:Q (.int (ie a b s o)) H)
theorem uq:aB ["_law_rows","_law_columns","_law_side","_law_over","_law_one"] ["_law_rows","_law_columns","_law_side","_law_over"] (ak jT):=by walk_at "c"
theorem vh{f:Addr}{fd:KO}(F:dw K "_law_joints" "_law_joints" jT f fd)(nb:NB mg):aR P w K mg base bB 1 f fd ["_law_rows","_law_columns","_law_side","_law_over"] lY:=by
 have sc:=uq;walk_at "f"
 ·obtain⟨a,b,s,o,rfl,_⟩:=h;rfl
 ·obtain⟨a,b,s,o,rfl,a1,a6,b1,b6,s1,s9,o1,o9,q⟩:=h
  refine⟨_,(af (aH (i:=4) sc.nd rfl (Or.inl rfl) (az (bx.m0 bi) (az (bx.m1 cK) (al 3) (az (bx.m0 jI) (al 0) am)) (az (bx.m1 cK) (az (bx.m1 cK) (al 2) (al 0)) (az (bx.m0 jI) (al 1) am))))
   (ag (aJ (aP (qz rfl) rfl nb.min B5 (ac (al 4) (ac (az (bx.m0 bi) (az (bx.m1 cK) (al 2) (az (bx.m0 jI) (al 1) am)) (az (bx.m1 cK) (az (bx.m1 cK) (al 3) (al 1)) (az (bx.m0 jI) (al 0) am))) ad)))))),?_⟩
  walk_at "wp";refine⟨.inl ⟨⋯,⋯⟩,.inl ⟨⋯,⋯⟩,.inr ⟨⋯,⋯⟩,.inl ⟨⋯,⋯⟩,.inl ⟨⋯,⋯⟩,.inr ⟨⋯,⋯⟩,?_⟩;unfold ie at q;generalize o*(a-1)+s*a*(b-1)=x at q ⊢;generalize s*(b-1)+o*b*(a-1)=y at q ⊢;rw[show(if y<x then y else x)=min x y by rw[Int.min_def];split<;>split<;>omega];exact q
abbrev iI:Stmt:=gW 66
inductive kz(K:W.Frag)(vs:List V)(H:Hp)(Q:VK)(_E:XK):Prop
 |mk (ls la:Addr) (ns:List Int) (r:KI) (_:vs=[.ref ls,.ref la]) (_:aQ K H ls (ns.map V.int)) (_:H la=some (.lst (ar (cH r)))) (_:1<=r.length) (_:r.length<=2) (_:∀(l:Addr) (p:aF) (a b:Nat) (H':Hp),H l=none->H' l=some (.lst (ar p))->rect p a b->1<=a->a<=6->1<=b->b<=6->(∀row∈p,∀x∈row,x∈r)->aD H H'->Q (.ref l) H')
theorem r_:aB ["_law_script","_law_signs_here","_law_picture_here","_law_i","_law_row"] ["_law_script","_law_signs_here"] (ak iI):=by walk_at "c"
theorem q_{f:Addr}{fd:KO}(F:dw K "_law_picture" "_law_picture" iI f fd)(nb:NB mg)(zia:dL P w K mg base bB 1 "_law_cell" ["_law_script","_law_k"] (kK K)):aR P w K mg base bB 2 f fd ["_law_script","_law_signs_here"] (kz K):=by
 have sc:=r_;walk_at "f"
 ·obtain⟨ls,la,ns,r,rfl,_⟩:=h;rfl
 ·obtain⟨ls,la,ns,r,rfl,hS,hla,r1,r2,q⟩:=h
  have hol:(cH r).length=r.length:=by unfold cH;rw[JM]
  refine⟨_,(af (ce (br jZ (aP cI rfl nb.len b_ (ac (al 1) ad)) am (bO _))
   (ag (aJ (az EC (bE (ac (az xS (cR cW (al 1) am (λ_ _=>rfl)) (az (bx.m0 bi) am (az (bx.m1 bG) (aE zia (hr.mono nofun) rfl aM (ac (al 0) (bA ad))) am))) ad)) (az (bx.m0 bi) am (az (bx.m1 bG) (az (bx.m1 cj) (aE zia (hr.mono nofun) rfl aM (ac (al 0) (bA ad))) am) am)))))
   bu)
   (af (aH (i:=2) sc.nd rfl (Or.inl rfl) (bE ad))
   (af (bj PassesOwn.never rfl (cB rfl nb.range (ac (az (bx.m0 bi) am (az (bx.m1 bG) (az (bx.m1 cj) (aE zia (hr.mono nofun) rfl aM (ac (al 0) (bA ad))) am) am)) ad)) (aA (i:=3) sc.nd rfl (Or.inr rfl))
   (af (gH (i:=4) ["_law_k"] [1,0,3] sc.nd rfl (Or.inl rfl) rfl  rfl (bH.of (by kernel_rfl)) (by kernel_rfl) (cB rfl nb.range (ac (az (bx.m0 bi) am (az (bx.m1 bG) (aE zia (hr.mono nofun) rfl aM (ac (al 0) (bA ad))) am)) ad))
    (λ_ _ _ _=>(aA (i:=0) (by show(["_law_k","_law_signs_here","_law_script","_law_i"]:List Str).Nodup;decide +kernel) rfl (Or.inl rfl))) (λ_ _ _ _=>cN) (λ_ _ _ _=>(cR (Bw (K:=K) rfl) (al 1) (az (bx.m1 bG) (aE zia (hr.mono nofun) rfl aM (ac (al 2) (ac (az (bx.m0 bi) (az (bx.m0 bi) am (az (bx.m1 cK) am (al 3))) (al 0)) ad))) am) (λ_ _=>rfl))))
   (ag (bw (eC PySem.F.plainAttrs_list PySem.F.slot_list_append PySem.F.type_list_append bX (al 2) (ac (@qk _ _ _ _ _ _ _ _ (ac (al 4) ad) rfl rfl) ad))))))
   (ag (aJ (al 2)))))),?_⟩
  walk_at "n";refine⟨_,aQ.of hla,?_⟩;rw[aq,hol];refine mW (λhc=>?_) (λhc=>h1 _ _ ?_)
  ·obtain⟨g,rfl⟩:∃g,r=[g]:=List.length_eq_one_iff.mp ⋯
   obtain⟨b,hb⟩:∃b:Nat,1+aX ns 1%6=(b:Int):=⟨_,(KA ⋯).symm⟩;obtain⟨a,ha⟩:∃a:Nat,1+aX ns 1/6%6=(a:Int):=⟨_,(KA ⋯).symm⟩;refine⟨_,aQ.of hla,_,(rfl:vq [V.str (tx [g])] 0=some (V.str (tx [g]))),ls,ns,1,rfl,hS,⋯,_,rfl,[g],rfl,b,hb,⋯,⋯,by simp,au nofun,λp1 hp1=>⟨ls,ns,1,rfl,(aj hp1).seq hS,⋯,_,rfl,_,ae,⋯,⋯,?_,λp2 hp2=>?_⟩⟩
   ·rw[ha];simp;exact au ⋯
   ·have e:(List.replicate (1+aX ns 1/6%6).toNat [V.str (tx (List.replicate b [g]).flatten)]).flatten=ar (List.replicate a (List.replicate b [g]).flatten):=by
     rw[ha,JU];unfold ar;rw[List.map_replicate];simp
    rw[e];have s1:=aj (o:=.lst [V.str (tx (List.replicate b [g]).flatten)]) hp1;refine q p2 _ a b _ (s1.free hp2) ae ⟨List.length_replicate,λx hx=>?_⟩ ⋯ ⋯ ⋯ ⋯ (λrow hrow x hx=>?_) (s1.trans (aj hp2))
    ·rw[List.eq_of_mem_replicate hx,kg];simp
    ·rw[List.eq_of_mem_replicate hrow]at hx
     obtain⟨y,hy,hx⟩:=List.mem_flatten.mp hx;rw[List.eq_of_mem_replicate hy]at hx;exact hx
  ·walk_at "nc"
   refine⟨J9 _,λl hl=>h1 _ _ ?_⟩;clear h1;generalize z0:aC H l _=H1;obtain⟨s1,e1⟩:=iH hl z0;walk_at "n";have hr2:r.length=2:=by omega
   obtain⟨b,hb⟩:∃b:Nat,1+aX ns 1%3=(b:Int):=⟨_,(KA ⋯).symm⟩;obtain⟨a,ha⟩:∃a:Nat,1+aX ns 1/3%3=(a:Int):=⟨_,(KA ⋯).symm⟩;refine⟨ls,ns,1,rfl,s1.seq hS,⋯,_,rfl,⋯,⋯,?_⟩;rw[ha,JU];refine b7 (lo:=0) (n:=a) (λi σ H'=>aD H H'/\(∃p:aF,H' l=some (.lst (ar p))/\rect p i b/\∀row∈p,∀x∈row,x∈r)/\∃x y,σ=[some (V.ref ls),some (V.ref la),some (V.ref l),x,y]) ⟨s1,⟨[],e1,⟨rfl,λx hx=>nomatch hx⟩,λrow hr=>nomatch hr⟩,_,_,rfl⟩ ?_ ?_
   ·rintro i σ H' hi ⟨sm,⟨p,hp,hpr,hpm⟩,x,y,rfl⟩
    have hS':=sm.seq hS;walk_at "n";refine⟨ls,ns,1,rfl,hS',⋯,_,rfl,⋯,⋯,?_⟩;rw[hb,JU];refine iB (n:=b) (f:=λk=>some (V.str (tx [r.getD (aX ns (8+3*i+k)%2).toNat 0]))) (λσ=>∃x,σ=[x,some (.ref la),some (.ref ls),some (.int (i:Int))]) ⟨_,rfl⟩ ⋯ ?_ ?_
    ·rintro k hk σ H2 M1 M0 ⟨y,rfl⟩ s2 k1 k0
     walk_at "wp";have hj:(aX ns (8+3*i+k)%2).toNat<r.length:=by omega
     refine⟨ls,ns,8+3*i+k,by push_cast;rfl,s2.seq hS',⋯,_,rfl,_,aQ.of ((sm.trans s2) _ _ hla),V.str (tx [r.getD (aX ns (8+3*i+k)%2).toNat 0]),?_,k1 _ _ _ rfl s2 ⟨_,rfl⟩⟩;generalize hm:(aX ns (8+3*i+k)%2).toNat=m at hj ⊢;rw[show aX ns (8+3*i+k)%2=(m:Int) by omega];refine ci ?_;unfold ar cH;rw[JZ,JO,JJ hj,List.getD_eq_getElem?_getD,JJ hj]
     rfl
    ·intro H2 s2 l2 hl2
     rw[mY];refine h1 _ _ ?_;clear h1;have s3:=aj (o:=.lst ((List.range b).map λk=>V.str (tx [r.getD (aX ns (8+3*i+k)%2).toNat 0]))) hl2;have e3:aC H2 l2 (.lst ((List.range b).map λk=>V.str (tx [r.getD (aX ns (8+3*i+k)%2).toNat 0]))) l2=some (.lst (ar (cH ((List.range b).map λk=>r.getD (aX ns (8+3*i+k)%2).toNat 0)))):=by
      rw[ae];unfold ar cH;rw[JZ,JZ];rfl
     have hrow:((List.range b).map λk=>r.getD (aX ns (8+3*i+k)%2).toNat 0).length=b:=by rw[JM,List.length_range]
     have hin:∀x∈((List.range b).map λk=>r.getD (aX ns (8+3*i+k)%2).toNat 0),x∈r:=λx hx=>by
      obtain⟨k,_,rfl⟩:=Kt.mp hx;have:(aX ns (8+3*i+k)%2).toNat<r.length:=by omega
      rw[List.getD_eq_getElem?_getD,JJ this];exact JT _
     generalize((List.range b).map λk=>r.getD (aX ns (8+3*i+k)%2).toNat 0)=row at e3 hrow hin;generalize aC H2 l2 (.lst ((List.range b).map λk=>V.str (tx [r.getD (aX ns (8+3*i+k)%2).toNat 0])))=H3 at s3 e3 ⊢;have hp3:=s3 _ _ (s2 _ _ hp);walk_at "wp";refine⟨.inl ⟨rfl,_,aQ.of hp3⟩,rfl,(cH row).map tx,.inl (by rw[<- dM];exact aQ.of e3),?_,_,hp3,?_,bQ (sm.trans (s2.trans s3)) hl,p++[row],?_,?_,?_⟩
     ·have h1:=e_ (p:=cH row) (n:=1) λy hy=>by
       obtain⟨c,_,rfl⟩:=Kt.mp hy;exact J8 _
      have h2:(cH row).length=row.length:=by unfold cH;rw[JM]
      have e0:(Str.ofString "").length=0:=rfl;rw[e0];omega
     ·rw[aq,hpr.1];exact bh ⋯
     ·rw[ae,QL.join_nil,oi,cD]
     ·refine⟨by rw[J7,hpr.1];rfl,λx hx=>?_⟩
      rcases JY.mp hx with h | h
      ·exact hpr.2 x h
      ·rw[JN.mp h];exact hrow
     ·intro rw0 hx
      rcases JY.mp hx with h | h
      ·exact hpm rw0 h
      ·rw[JN.mp h];exact hin
   ·rintro σ H' ⟨sm,⟨p,hp,hpr,hpm⟩,x,y,rfl⟩
    refine h1 _ _ ?_;walk_at "wp";exact q l p a b H' hl hp hpr ⋯ ⋯ ⋯ ⋯ hpm sm
theorem v_{g:TG}{tb:TS}{D:il}{σ:St}{H:Hp}{r:KI}(Pv:Nat->St->Hp->Prop)(h0:Pv 0 σ H)
  (hs:∀(i:Nat) c σ H,r[i]?=some c->Pv i σ H->g (.str ⟨#[c]⟩) σ H λσ2 H2=>tb {D with nx:=Pv (i+1),ct:=Pv (i+1),bk:=D.nx} σ2 H2) (hd:∀σ H,Pv r.length σ H->D.nx σ H):yg (Fg (tx r)) g tb D σ H:=by
 have hsz:(tx r).cps.size=r.length:=by rw[<- Array.length_toList,dD]
 refine⟨λi m σ H=>Pv i σ H/\i<=r.length/\m=r.length+1-i,⟨_,h0,J9 _,rfl⟩,?_⟩;rintro i m σ' H' ⟨w,hi,rfl⟩;rcases Nat.lt_or_ge i r.length with hlt | hge
 ·refine .inr ⟨by show i<(tx r).cps.size;omega,Pv (i+1),λσ2 H2 w2=>⟨r.length+1-(i+1),⋯,w2,hlt,rfl⟩,λx H2 y=>?_⟩
  obtain⟨rfl,c,hc,rfl⟩:=y;rw[<- Array.getElem?_toList,dD]at hc;exact hs i c σ' H2 hc w
 ·have e:i=r.length:=by omega
  subst e;exact .inl ⟨by show(tx r).cps.size<=r.length;omega,hd _ _ w⟩
def kC(cst:Nat->Int)(p:aF):Int:=(p.flatten.map cst).sum
abbrev rD:Stmt:=gW 67
inductive uM(K:W.Frag)(vs:List V)(H:Hp)(Q:VK)(_E:XK):Prop
 |mk (lp dc:Addr) (p:aF) (a b:Nat) (kvs:List (cC×V)) (cst:Nat->Int) (s o:Int) (_:vs=[.ref lp,.ref dc,.int s,.int o]) (_:H lp=some (.lst (ar p))) (_:rect p a b) (_:1<=a) (_:a<=6) (_:1<=b) (_:b<=6) (_:H dc=some (.dK kvs)) (_:(∀x∈p.flatten,cQ kvs (.inr ⟨#[x]⟩)=some (.int (cst x)))) (_:1<=s) (_:s<=9) (_:1<=o) (_:o<=9) (_:Q (.int (kC cst p+ie a b s o)) H)
theorem Ak:aB ["_law_picture_here","_law_costs","_law_side","_law_over","_law_total","_law_sign"] ["_law_picture_here","_law_costs","_law_side","_law_over"] (ak rD):=by walk_at "c"
theorem AA{f:Addr}{fd:KO}(F:dw K "_law_due" "_law_due" rD f fd)(nb:NB mg)(zBb:dL P w K mg base bB 1 "_law_joints" ["_law_rows","_law_columns","_law_side","_law_over"] lY):aR P w K mg base bB 2 f fd ["_law_picture_here","_law_costs","_law_side","_law_over"] (uM K):=by
 have sc:=Ak;walk_at "f"
 ·obtain⟨lp,dc,p,a,b,kvs,cst,s,o,rfl,_⟩:=h;rfl
 ·obtain⟨lp,dc,p,a,b,kvs,cst,s,o,rfl,hlp,hp,a1,a6,b1,b6,hdc,hv,s1,s9,o1,o9,q⟩:=h
  have hu:=hr.units;refine⟨_,(af (aH (i:=4) sc.nd rfl (Or.inl rfl) am)
   (af (bj PassesOwn.never rfl (Aa (@qk _ _ _ _ _ _ _ _ (ac (al 0) ad) rfl rfl)) (aA (i:=5) sc.nd rfl (Or.inl rfl))
   (ag (aH (i:=4) sc.nd rfl (Or.inl rfl) (az (bx.m0 bi) (al 4) (iX (Kq (Kv (by decide:1<=64) _) hu) (al 1) (al 5) (λ_ _=>rfl))))))
   (ag (aJ (az (bx.m0 bi) (al 4) (aE zBb (hr.mono nofun) rfl aM (ac (aP cI rfl nb.len b_ (ac (al 0) ad)) (ac (aP bL rfl nb.len b_ (ac (cR cW (al 0) am (λ_ _=>rfl)) ad)) (ac (al 2) (ac (al 3) ad)))))))))),?_⟩
  walk_at "n";refine h1 _ _ ?_;walk_at "nc";have hsm:dH p:=dH.of hp ⋯ ⋯;refine⟨rfl,p.map tx,.inl (by rw[<- dM];exact aQ.of hlp),?_,?_⟩
  ·have h1:=e_ hsm.2
   have h2:p.length*64<=64*64:=Nat.mul_le_mul_right _ hsm.1;have e0:(Str.ofString "").length=0:=rfl;rw[e0];omega
  ·rw[QL.join_nil]
   refine v_ (r:=p.flatten) (λi σ H'=>H'=H/\∃x,σ=[some (V.ref lp),some (V.ref dc),some (V.int s),some (V.int o),some (V.int ((p.flatten.take i).map cst).sum),x]) ⟨rfl,_,rfl⟩ ?_ ?_
   ·rintro i c σ H' hc ⟨rfl,x,rfl⟩
    walk_at "wp";refine⟨_,.inl ⟨_,.inr ⟨#[c]⟩,.inl hdc,rfl,(hv c (JP hc)).symm⟩,_,rfl,?_⟩;rw[List.take_add_one,hc,JX,List.sum_append];show _=_+(cst c+0);omega
   ·rintro σ H' ⟨rfl,x,rfl⟩
    refine h1 _ _ ?_;rw[Kj];walk_at "wp";obtain⟨hl0,hrow⟩:=nu hp (show 0<a by omega);refine⟨_,aQ.of hlp,_,aQ.of hlp,_,ci (j:=0) (cy hl0),_,rfl,by rw[aG,hrow];exact au ⋯,?_⟩;rw[aq,hp.1,aG,hrow];exact⟨a,b,s,o,rfl,⋯,⋯,⋯,⋯,s1,s9,o1,o9,_,rfl,q⟩
structure pT(rs:Yaa)(n:KI)(r:KI)(cst:Nat->Int)(s o:Int):Prop where
 low:∀x∈rs,x.2.n=n/\((x.1=0/\∃g,x.2.sg=[g]/\cst g<=x.2.c)\/(x.1=1/\x.2.o1=n/\x.2.o2=n/\s<=x.2.c)\/(x.1=2/\x.2.o1=n/\x.2.o2=n/\o<=x.2.c))
 one:∃x∈rs,x.1=1/\x.2.n=n/\x.2.o1=n/\x.2.o2=n/\x.2.c=s
 two:∃x∈rs,x.1=2/\x.2.n=n/\x.2.o1=n/\x.2.o2=n/\x.2.c=o
 cel:∀g∈r,∃x∈rs,x.1=0/\x.2.n=n/\x.2.sg=[g]/\x.2.c=cst g
def qY(cst:Nat->Int)(s o:Int)(p:aF)(a b:Nat):Int:=kC cst p+ie a b s o
theorem Cc{u v w s o:Int}(hu:0<=u)(hv:0<=v)(hw:0<=w):ie (u+1) (v+1+(w+1)) s o<=s+ie (u+1) (v+1) s o+ie (u+1) (w+1) s o:=by
 unfold ie;have e1:v+1+(w+1)-1=v+w+1:=by omega
 rw[e1,Int.add_sub_cancel,Int.add_sub_cancel,Int.add_sub_cancel];have a1:=Int.mul_right_comm s v u;have a2:=Int.mul_right_comm s w u;rcases Int.le_total s o with h | h
 ·obtain⟨d,rfl⟩:∃d,o=s+d:=⟨o-s,⋯⟩
  have h1:=Int.mul_nonneg (show 0<=d by omega) hu;have h2:=Int.mul_nonneg h1 hv;have h3:=Int.mul_nonneg h1 hw;simp only[Int.add_mul,Int.mul_add,Int.mul_one,a1,a2,Int.mul_right_comm d v u,Int.mul_right_comm d w u];clear a1 a2 e1 h hu hv hw;omega
 ·obtain⟨d,rfl⟩:∃d,s=o+d:=⟨s-o,⋯⟩
  have h1:=Int.mul_nonneg (show 0<=d by omega) hu;have h2:=Int.mul_nonneg h1 hv;have h3:=Int.mul_nonneg h1 hw;simp only[Int.add_mul,Int.mul_add,Int.mul_one,Int.mul_right_comm o v u,Int.mul_right_comm o w u];clear a1 a2 e1 h hu hv hw;omega
theorem oK{a j k:Nat}{s o:Int}(a1:1<=a)(j1:1<=j)(k1:1<=k):ie a ((j+k:Nat):Int) s o<=s+ie a j s o+ie a k s o:=by
 obtain⟨u,rfl⟩:=Nat.exists_eq_add_of_le' a1;obtain⟨v,rfl⟩:=Nat.exists_eq_add_of_le' j1;obtain⟨w,rfl⟩:=Nat.exists_eq_add_of_le' k1
 push_cast
 exact Cc (Int.natCast_nonneg u) (Int.natCast_nonneg v) (Int.natCast_nonneg w)
theorem yt{a j k:Nat}{s o:Int}(a1:1<=a)(j1:1<=j)(k1:1<=k):ie ((j+k:Nat):Int) a s o<=o+ie j a s o+ie k a s o:=by
 have sw:∀a b:Int,ie a b s o=ie b a o s:=λa b=>Int.min_comm _ _;rw[sw,sw,sw];exact oK a1 j1 k1
theorem lH(cst:Nat->Int)(x:G2)(p:aF):kC cst (x::p)=(x.map cst).sum+kC cst p:=by
 unfold kC;rw[List.flatten_cons,JX,List.sum_append]
theorem iV(cst:Nat->Int)(j:Nat):∀p:aF,kC cst p=kC cst (p.map (List.take j))+kC cst (p.map (List.drop j))
 | []=>rfl
 |x::p=>by
  have ih:=iV cst j p;rw[Kc,Kc,lH,lH,lH,ih];have:(x.map cst).sum=((x.take j).map cst).sum+((x.drop j).map cst).sum:=by
   rw[<- List.sum_append,<- JX,List.take_append_drop]
  omega
theorem qx(cst:Nat->Int)(j:Nat)(p:aF):kC cst p=kC cst (p.take j)+kC cst (p.drop j):=by
 unfold kC;rw[<- List.sum_append,<- JX,<- List.flatten_append,List.take_append_drop]
theorem qv{x:Nat×RV}{q:aF}{a b j:Nat}(hx:x.1=1)(hq:rect q a b)(a1:1<=a)(j1:1<=j)(jb:j<b):[(aZ (q.map (List.take j)),x.2.o1),(aZ (q.map (List.drop j)),x.2.o2)]∈a_ x q:=by
 unfold a_;rw[hx];refine Kt.mpr ⟨(aZ (q.map (List.take j)),aZ (q.map (List.drop j))),?_,rfl⟩;unfold bv;rw[aU hq a1];exact Kt.mpr ⟨j-1,List.mem_range.mpr ⋯,by rw[show j-1+1=j by omega];rfl⟩
theorem ye{x:Nat×RV}{q:aF}{a b j:Nat}(hx:x.1=2)(hq:rect q a b)(j1:1<=j)(ja:j<a):[(aZ (q.take j),x.2.o1),(aZ (q.drop j),x.2.o2)]∈a_ x q:=by
 unfold a_;rw[hx];refine Kt.mpr ⟨(aZ (q.take j),aZ (q.drop j)),?_,rfl⟩;unfold bv;rw[hq.1];exact Kt.mpr ⟨j-1,List.mem_range.mpr ⋯,by rw[show j-1+1=j by omega];rfl⟩
theorem kL{p:aF}{a b j:Nat}(h:rect p a b)(hj:j<=b):rect (p.map (List.take j)) a j/\rect (p.map (List.drop j)) a (b-j):=by
 refine⟨⟨by rw[JM];exact h.1,λx hx=>?_⟩,⟨by rw[JM];exact h.1,λx hx=>?_⟩⟩
 ·obtain⟨y,hy,rfl⟩:=Kt.mp hx
  rw[Kk,h.2 y hy];omega
 ·obtain⟨y,hy,rfl⟩:=Kt.mp hx
  rw[Kl,h.2 y hy]
theorem kZ{p:aF}{a b j:Nat}(h:rect p a b)(hj:j<=a):rect (p.take j) j b/\rect (p.drop j) (a-j) b:=by
 refine⟨⟨by rw[Kk,h.1];omega,λx hx=>h.2 x (List.mem_of_mem_take hx)⟩,⟨by rw[Kl,h.1],λx hx=>h.2 x (List.mem_of_mem_drop hx)⟩⟩
structure ii(r:KI)(p:aF)(a b:Nat):Prop where
 rc:rect p a b
 a1:1<=a
 a6:a<=6
 b1:1<=b
 b6:b<=6
 cells:∀row∈p,∀x∈row,x∈r
theorem ii.ok{r:KI}{p:aF}{a b:Nat}(h:ii r p a b)(h47:47∉r):zG p:=⟨λe=>by have:=h.rc.1;have:=h.a1;rw[e]at *;simp at *;omega,λrow hr hx=>h47 (h.cells row hr 47 hx)⟩
theorem ii.cols{r:KI}{p:aF}{a b j:Nat}(h:ii r p a b)(j1:1<=j)(jb:j<b):ii r (p.map (List.take j)) a j/\ii r (p.map (List.drop j)) a (b-j):=by
 have:=h.b6;refine⟨⟨(kL h.rc ⋯).1,h.a1,h.a6,j1,⋯,λrow hr x hx=>?_⟩,⟨(kL h.rc ⋯).2,h.a1,h.a6,⋯,⋯,λrow hr x hx=>?_⟩⟩
 ·obtain⟨y,hy,rfl⟩:=Kt.mp hr
  exact h.cells y hy x (List.mem_of_mem_take hx)
 ·obtain⟨y,hy,rfl⟩:=Kt.mp hr
  exact h.cells y hy x (List.mem_of_mem_drop hx)
theorem ii.rows{r:KI}{p:aF}{a b j:Nat}(h:ii r p a b)(j1:1<=j)(ja:j<a):ii r (p.take j) j b/\ii r (p.drop j) (a-j) b:=by
 have:=h.a6;exact⟨⟨(kZ h.rc ⋯).1,j1,⋯,h.b1,h.b6,λrow hr=>h.cells row (List.mem_of_mem_take hr)⟩,⟨(kZ h.rc ⋯).2,⋯,⋯,h.b1,h.b6,λrow hr=>h.cells row (List.mem_of_mem_drop hr)⟩⟩
theorem FN{p:aF}(h:rect p 1 1):∃g,p=[[g]]:=by
 obtain⟨row,rfl⟩:=List.length_eq_one_iff.mp h.1;obtain⟨g,rfl⟩:=List.length_eq_one_iff.mp (h.2 row (by simp));exact⟨g,rfl⟩
theorem Dv.eq{rs:Yaa}{k k':Ky}{v v':Int}(h:Dv rs k v)(e:k=k')(e':v=v'):Dv rs k' v':=by subst e;subst e';exact h
theorem GT{A B s o:Int}{a b:Nat}(h:1<a):o+(A+(o*(((1:Nat):Int)-1)+s*((1:Nat):Int)*((b:Int)-1)))+(B+(o*(((a-1:Nat):Int)-1)+s*((a-1:Nat):Int)*((b:Int)-1)))=A+B+(o*((a:Int)-1)+s*(a:Int)*((b:Int)-1)):=by
 obtain⟨u,rfl⟩:=Nat.exists_eq_add_of_le' (Nat.le_of_lt h);rw[Nat.add_sub_cancel,Ko];generalize(b:Int)-1=y;simp only[Int.natCast_one,Int.add_sub_cancel,Int.mul_sub,Int.mul_add,Int.add_mul,Int.mul_one];omega
theorem GR{A B s o:Int}{b:Nat}(h:1<b):s+(A+(o*(((1:Nat):Int)-1)+s*((1:Nat):Int)*(((1:Nat):Int)-1)))+(B+(o*(((1:Nat):Int)-1)+s*((1:Nat):Int)*(((b-1:Nat):Int)-1)))=A+B+(o*(((1:Nat):Int)-1)+s*((1:Nat):Int)*((b:Int)-1)):=by
 obtain⟨u,rfl⟩:=Nat.exists_eq_add_of_le' (Nat.le_of_lt h);rw[Nat.add_sub_cancel,Ko];simp only[Int.natCast_one,Int.add_sub_cancel,Int.mul_sub,Int.mul_one];omega
theorem Gz{A B s o:Int}{a b:Nat}(h:1<b):s+(A+(o*((a:Int)-1)+s*(a:Int)*(((1:Nat):Int)-1)))+(B+(s*(((b-1:Nat):Int)-1)+o*((b-1:Nat):Int)*((a:Int)-1)))=A+B+(s*((b:Int)-1)+o*(b:Int)*((a:Int)-1)):=by
 obtain⟨u,rfl⟩:=Nat.exists_eq_add_of_le' (Nat.le_of_lt h);rw[Nat.add_sub_cancel,Ko];generalize(a:Int)-1=y;simp only[Int.natCast_one,Int.add_sub_cancel,Int.mul_sub,Int.mul_add,Int.add_mul,Int.mul_one];omega
theorem gy{rs:Yaa}{n r:KI}{cst:Nat->Int}{s o:Int}(S:pT rs n r cst s o)(h47:47∉r):∀(m:Nat) {a b:Nat} {p:aF},a+b<=m->ii r p a b->Dv rs (aZ p,n) (kC cst p+(o*((a:Int)-1)+s*a*((b:Int)-1)))
 |0,a,b,p,hm,h=>by have:=h.a1;omega
 |m+1,a,b,p,hm,h=>by
  have a1:=h.a1;have b1:=h.b1;have hok:=h.ok h47
  by_cases ha:1<a
  ·obtain⟨x,hx,k2,e1,e2,e3,e4⟩:=S.two
   obtain⟨hl,hr⟩:=h.rows (j:=1) (J8 _) ha;have d1:=gy S h47 m ⋯ hl;have d2:=gy S h47 m ⋯ hr;have hw:=ye k2 h.rc (J8 1) ha;rw[e2,e3]at hw;refine(Dv.two hx hok hw d1 d2).eq (by rw[e1]) ?_;rw[e4,qx cst 1 p];exact GT ha
  ·have ea:a=1:=by omega
   subst ea
   by_cases hb:1<b
   ·obtain⟨x,hx,k2,e1,e2,e3,e4⟩:=S.one
    obtain⟨hl,hr⟩:=h.cols (j:=1) (J8 _) hb;have d1:=gy S h47 m ⋯ hl;have d2:=gy S h47 m ⋯ hr;have hw:=qv k2 h.rc a1 (J8 1) hb;rw[e2,e3]at hw;refine(Dv.two hx hok hw d1 d2).eq (by rw[e1]) ?_;rw[e4,iV cst 1 p];exact GR hb
   ·have eb:b=1:=by omega
    subst eb;obtain⟨g,rfl⟩:=FN h.rc;obtain⟨x,hx,k0,e1,e2,e3⟩:=S.cel g (h.cells [g] (by simp) g (by simp));have hw:[]∈a_ x [[g]]:=by
     unfold a_;rw[k0];show[]∈(if aZ [[g]]=x.2.sg then[[]] else[]);rw[if_pos (by rw[e2];rfl)];simp
    refine(Dv.leaf hx hok hw).eq (by rw[e1]) ?_;rw[e3];show cst g=(cst g+0)+_;omega
theorem xJ{rs:Yaa}{n r:KI}{cst:Nat->Int}{s o:Int}(S:pT rs n r cst s o)(h47:47∉r):∀(m:Nat) {a b:Nat} {p:aF},b<=m->ii r p a b->Dv rs (aZ p,n) (kC cst p+(s*((b:Int)-1)+o*b*((a:Int)-1)))
 |0,a,b,p,hm,h=>by have:=h.b1;omega
 |m+1,a,b,p,hm,h=>by
  have a1:=h.a1;have b1:=h.b1;have hok:=h.ok h47
  by_cases hb:1<b
  ·obtain⟨x,hx,k2,e1,e2,e3,e4⟩:=S.one
   obtain⟨hl,hr⟩:=h.cols (j:=1) (J8 _) hb;have d1:=gy S h47 _ (J8 _) hl;have d2:=xJ S h47 m ⋯ hr;have hw:=qv k2 h.rc a1 (J8 1) hb;rw[e2,e3]at hw;refine(Dv.two hx hok hw d1 d2).eq (by rw[e1]) ?_;rw[e4,iV cst 1 p];exact Gz hb
  ·have eb:b=1:=by omega
   subst eb;refine(gy S h47 _ (J8 _) h).eq rfl ?_;simp only[Int.natCast_one,Int.sub_self,Int.mul_zero,Int.mul_one];omega
theorem A_{rs:Yaa}{n r:KI}{cst:Nat->Int}{s o:Int}(S:pT rs n r cst s o)(h47:47∉r){a b:Nat}{p:aF}(h:ii r p a b):Dv rs (aZ p,n) (qY cst s o p a b):=by
 unfold qY ie;have hX:=gy S h47 _ (J8 _) h;have hY:=xJ S h47 _ (J8 _) h;rw[Int.min_def]
 split
 ·exact hX
 ·exact hY
theorem DD{p:aF}{a b:Nat}{g:Nat}(h:rect p a b)(a1:1<=a)(b1:1<=b)(e:aZ p=[g]):p=[[g]]/\a=1/\b=1:=by
 match p,h with
 | [],h=>have:=h.1;simp at this;omega
 | [row],h=>
  have e':row=[g]:=e;subst e';exact⟨rfl,h.1.symm,(h.2 [g] (by simp)).symm⟩
 |row::row'::aY,h=>
  have e':row++47::aZ (row'::aY)=[g]:=e;have hl:=congrArg List.length e';have hb:=h.2 row (by simp);rw[J7,JW]at hl;simp at hl;omega
theorem xU{rs:Yaa}{n r:KI}{cst:Nat->Int}{s o:Int}(S:pT rs n r cst s o)(h47:47∉r)(s1:1<=s)(o1:1<=o){k:Ky}{v:Int}(h:Dv rs k v):∀{p:aF} {a b:Nat},k.1=aZ p->ii r p a b->qY cst s o p a b<=v:=by
 induction h with
 | @leaf x q hr ho hw=>
  intro p a b e hp;have e:=ho.inj (hp.ok h47) e;subst e;obtain⟨en,⟨k0,g,eg,hc⟩ | ⟨k1,_⟩ | ⟨k2,_⟩⟩:=S.low x hr
  ·unfold a_ at hw
   rw[k0]at hw;have hw':[]∈(if aZ q=x.2.sg then[[]] else([]:List (List Ky))):=hw
   split at hw'
   ·rename_i eq
    obtain⟨rfl,rfl,rfl⟩:=DD hp.rc hp.a1 hp.b1 (eq.trans eg);unfold qY ie;show(cst g+0)+_<=_;omega
   ·exact nomatch hw'
  ·unfold a_ at hw
   rw[k1]at hw;obtain⟨_,_,e⟩:=Kt.mp hw;exact nomatch e
  ·unfold a_ at hw
   rw[k2]at hw;obtain⟨_,_,e⟩:=Kt.mp hw;exact nomatch e
 | @one x q k a0 hr ho hw _ ih=>
  intro p a b e hp;exfalso;obtain⟨en,⟨k0,_⟩ | ⟨k1,_⟩ | ⟨k2,_⟩⟩:=S.low x hr
  ·unfold a_ at hw
   rw[k0]at hw;have hw':[k]∈(if aZ q=x.2.sg then[[]] else([]:List (List Ky))):=hw
   split at hw'
   ·exact nomatch JN.mp hw'
   ·exact nomatch hw'
  ·unfold a_ at hw
   rw[k1]at hw;obtain⟨_,_,e⟩:=Kt.mp hw;exact nomatch e
  ·unfold a_ at hw
   rw[k2]at hw;obtain⟨_,_,e⟩:=Kt.mp hw;exact nomatch e
 | @two x q k1 k2 u1 u2 hr ho hw _ _ ih1 ih2=>
  intro p a b e hp;have e:=ho.inj (hp.ok h47) e;subst e;have a6:=hp.a6;have b6:=hp.b6;obtain⟨en,⟨k0,_⟩ | ⟨kk,eo1,eo2,hc⟩ | ⟨kk,eo1,eo2,hc⟩⟩:=S.low x hr
  ·exfalso
   unfold a_ at hw;rw[k0]at hw;have hw':[k1,k2]∈(if aZ q=x.2.sg then[[]] else([]:List (List Ky))):=hw
   split at hw'
   ·exact nomatch JN.mp hw'
   ·exact nomatch hw'
  ·unfold a_ at hw
   rw[kk]at hw;obtain⟨kp,hkp,e⟩:=Kt.mp hw;unfold bv at hkp;obtain⟨j,hj,rfl⟩:=Kt.mp hkp;have hj:=List.mem_range.mp hj;rw[aU hp.rc hp.a1]at hj
   injection e with e1 e2
   injection e2 with e2 _
   subst e1;subst e2
   obtain⟨hl,hr⟩:=hp.cols (j:=j+1) ⋯ ⋯;have i1:=ih1 (p:=q.map (List.take (j+1))) rfl hl;have i2:=ih2 (p:=q.map (List.drop (j+1))) rfl hr;have hj2:=oK (s:=s) (o:=o) (j:=j+1) (k:=b-(j+1)) hp.a1 ⋯ ⋯;rw[show j+1+(b-(j+1))=b by omega]at hj2;unfold qY at i1 i2 ⊢;rw[iV cst (j+1) q];omega
  ·unfold a_ at hw
   rw[kk]at hw;obtain⟨kp,hkp,e⟩:=Kt.mp hw;unfold bv at hkp;obtain⟨j,hj,rfl⟩:=Kt.mp hkp;have hj:=List.mem_range.mp hj;rw[hp.rc.1]at hj
   injection e with e1 e2
   injection e2 with e2 _
   subst e1;subst e2
   obtain⟨hl,hr⟩:=hp.rows (j:=j+1) ⋯ ⋯;have i1:=ih1 (p:=q.take (j+1)) rfl hl;have i2:=ih2 (p:=q.drop (j+1)) rfl hr;have hj2:=yt (s:=s) (o:=o) (j:=j+1) (k:=a-(j+1)) hp.b1 ⋯ ⋯;rw[show j+1+(a-(j+1))=a by omega]at hj2;unfold qY at i1 i2 ⊢;rw[qx cst (j+1) q];omega
theorem nz{rs:Yaa}{nms:List (List Nat)}{n r:KI}{cst:Nat->Int}{s o:Int}{p:aF}{ra ca:Nat}{tb:Tb}(E:kq rs nms p ra ca)(hB:vk rs nms p ra ca tb)(S:pT rs n r cst s o)(h47:47∉r)(s1:1<=s)(o1:1<=o){q:aF}{a b:Nat}(hs:bc p ra ca q)(h:ii r q a b):aI tb (aZ q,n)=some (qY cst s o q a b):=by
 obtain⟨v,hv,e⟩:=hB.min E hs (A_ S h47 h);have:=xU S h47 s1 o1 (hB.key _ v e).2.2.1 rfl h;rw[e,show v=qY cst s o q a b by omega]
theorem vN{row:KI}{n:Nat}(h:n<=row.length):Txt.slice (tx row) none (some (n:Int))=tx (row.take n):=by
 rw[i6,HT.sIx_nat,KC h];show tx ((row.drop 0).take (n-0))=_;rw[KD,Nat.sub_zero]
theorem yU{xs:List V}{n:Nat}(h:n<=xs.length):kc xs (some (n:Int)) none=xs.drop n:=by
 unfold kc;rw[HT.sIx_nat,HT.sIx_none,KC h,List.take_of_length_le (by rw[Kl];exact J8 _)]
theorem xh{xs:List V}{n:Nat}(h:n<=xs.length):kc xs none (some (n:Int))=xs.take n:=by
 unfold kc;rw[HT.sIx_nat,HT.sIx_none,KC h,KD,Nat.sub_zero]
def d9(H:Hp)(t:Addr)(r:Nat×RV):Prop:=H t=some (.tup (yJ r))
theorem d9.up{H H':Hp}{t:Addr}{r:Nat×RV}(h:d9 H t r)(s:aD H H'):d9 H' t r:=s _ _ h
theorem d9.putD{H:Hp}{t d:Addr}{r:Nat×RV}{kvs:List (cC×V)}{o:HO}(h:d9 H t r)(hd:H d=some (.dK kvs)):d9 (aC H d o) t r:=by
 have h':H t=some (.tup (yJ r)):=h;show aC H d o t=_;rw[ai (λz=>by rw[z,hd]at h';cases h')];exact h'
theorem d9.putL{H:Hp}{t d:Addr}{r:Nat×RV}{xs:List V}{o:HO}(h:d9 H t r)(hd:H d=some (.lst xs)):d9 (aC H d o) t r:=by
 have h':H t=some (.tup (yJ r)):=h;show aC H d o t=_;rw[ai (λz=>by rw[z,hd]at h';cases h')];exact h'
theorem aK.take{β:Type}{A:Hp->Addr->β->Prop}{H:Hp}{bs:KM}{ys:List β}(h:aK A H bs ys)(n:Nat):aK A H (bs.take n) (ys.take n):=by
 refine⟨by rw[Kk,Kk,h.1],λi b y e1 e2=>?_⟩;rw[List.getElem?_take]at e1 e2
 split at e1
 ·rw[if_pos (by assumption)]at e2
  exact h.2 i b y e1 e2
 ·cases e1
theorem aK.drop{β:Type}{A:Hp->Addr->β->Prop}{H:Hp}{bs:KM}{ys:List β}(h:aK A H bs ys)(n:Nat):aK A H (bs.drop n) (ys.drop n):=by
 refine⟨by rw[Kl,Kl,h.1],λi b y e1 e2=>?_⟩;rw[List.getElem?_drop]at e1 e2;exact h.2 (n+i) b y e1 e2
def pR(n:KI)(c:Int)(g:Nat):Nat×RV:=(0,⟨n,c,n,n,[g],0⟩)
def rq(n:KI)(s:Int)(g:Nat):Nat×RV:=(1,⟨n,s,n,n,[g],0⟩)
def rm(n:KI)(o:Int)(g:Nat):Nat×RV:=(2,⟨n,o,n,n,[g],0⟩)
def kE(m:Int)(x:Nat×RV):Nat×RV:=(x.1,⟨x.2.n,min 9 (x.2.c+m),x.2.o1,x.2.o2,x.2.sg,x.2.t⟩)
def ij(ns:List Int)(k:Nat):Int:=1+aX ns (5+k)%9
theorem qZ(ns:List Int)(k:Nat):1<=ij ns k/\ij ns k<=9:=by unfold ij;omega
def ue(ns:List Int)(r:KI)(g:Nat):Int:=ij ns (r.idxOf g)
def fY(ns:List Int)(n r:KI)(i:Nat):Yaa:=(List.range i).map λk=>pR n (ij ns k) (r.getD k 0)
def cU(ns:List Int)(r:KI)(i:Nat):List (cC×V):=(List.range i).map λk=>(.inr (tx [r.getD k 0]),.int (ij ns k))
theorem eY{r:KI}{k:Nat}(h:k<r.length):r.getD k 0=r[k]:=by rw[List.getD_eq_getElem?_getD,JJ h];rfl
theorem wY{r:KI}(nd:r.Nodup){j k:Nat}(hj:j<r.length)(hk:k<r.length)(e:r.getD j 0=r.getD k 0):j=k:=by
 rw[eY hj,eY hk]at e;rcases Nat.lt_trichotomy j k with h | h | h
 ·exact absurd e (List.pairwise_iff_getElem.mp nd j k hj hk h)
 ·exact h
 ·exact absurd e.symm (List.pairwise_iff_getElem.mp nd k j hk hj h)
theorem yi(ns:List Int){r:KI}(nd:r.Nodup){i:Nat}(hi:i<r.length):di (cU ns r i) (.inr (tx [r.getD i 0])) (.int (ij ns i))=cU ns r (i+1):=by
 unfold di;rw[if_neg]
 ·unfold cU;rw[List.range_succ,JX];rfl
 ·intro h
  rw[List.any_eq_true]at h;obtain⟨kv,hkv,e⟩:=h;unfold cU at hkv;obtain⟨k,hk,rfl⟩:=Kt.mp hkv;have hk:=List.mem_range.mp hk;have e':Sum.inr (tx [r.getD k 0])=(Sum.inr (tx [r.getD i 0]):cC):=of_decide_eq_true e;have e2:=d8 (Sum.inr.inj e')
  injection e2 with e2 _
  have:=wY nd ⋯ hi e2;omega
theorem ld(ns:List Int){r:KI}(nd:r.Nodup){k:Nat}(hk:k<r.length):∀i,k<i->i<=r.length->cQ (cU ns r i) (.inr (tx [r.getD k 0]))=some (.int (ij ns k))
 |0,h,_=>absurd h (Nat.not_lt_zero _)
 |i+1,h,hi=>by
  by_cases e:k<i
  ·have ih:=ld ns nd hk i e ⋯
   unfold cU at ih ⊢;rw[List.range_succ,JX];unfold cQ at ih ⊢;rw[List.find?_append];obtain⟨z,hz,hz2⟩:=Ka.mp ih;rw[hz,Option.some_or,<- hz2];rfl
  ·have e:k=i:=by omega
   subst e;unfold cU;rw[List.range_succ,JX];unfold cQ;rw[List.find?_append];have:((List.range k).map λk=>((.inr (tx [r.getD k 0]),.int (ij ns k)):cC×V)).find? (λkv=>decide (kv.1=.inr (tx [r.getD k 0])))=none:=by
    rw[List.find?_eq_none];intro kv hkv;obtain⟨j,hj,rfl⟩:=Kt.mp hkv;have hj:=List.mem_range.mp hj;intro e;have e':Sum.inr (tx [r.getD j 0])=(Sum.inr (tx [r.getD k 0]):cC):=of_decide_eq_true e;have e2:=d8 (Sum.inr.inj e')
    injection e2 with e2 _
    have:=wY nd ⋯ hk e2;omega
   rw[this];simp
theorem lA(ns:List Int){r:KI}(nd:r.Nodup){k:Nat}(hk:k<r.length):ue ns r (r.getD k 0)=ij ns k:=by
 unfold ue;rw[eY hk,nd.idxOf_getElem]
structure xN(ns:List Int)(n r:KI)(s o:Int)(rs:Yaa):Prop where
 low:∀x∈rs,∃m:Int,0<=m/\(x=kE m (rq n s (r.getD 0 0))\/x=kE m (rm n o (r.getD 0 0))\/∃k,k<r.length/\x=kE m (pR n (ij ns k) (r.getD k 0)))
 has:rq n s (r.getD 0 0)∈rs/\rm n o (r.getD 0 0)∈rs/\∀k,k<r.length->pR n (ij ns k) (r.getD k 0)∈rs
theorem A6{x:Nat×RV}(h:x.2.c<=9):kE 0 x=x:=by
 obtain⟨k,n,c,o1,o2,sg,t⟩:=x;have h:c<=9:=h;unfold kE;simp only[Int.add_zero];rw[Int.min_eq_right h]
theorem lG{x:Nat×RV}{m m':Int}(h:0<=m'):kE m' (kE m x)=kE (m+m') x:=by
 obtain⟨k,n,c,o1,o2,sg,t⟩:=x;unfold kE;simp only
 congr 2
 omega
theorem xN.first(ns:List Int){n r:KI}{s o:Int}(s9:s<=9)(o9:o<=9):xN ns n r s o ([rq n s (r.getD 0 0),rm n o (r.getD 0 0)]++fY ns n r r.length):=by
 refine⟨λx hx=>⟨0,Int.le_refl _,?_⟩,by simp,by simp,λk hk=>List.mem_append_right _ (Kt.mpr ⟨k,List.mem_range.mpr hk,rfl⟩)⟩;rcases JY.mp hx with hx | hx
 ·rcases J0.mp hx with rfl | hx
  ·exact .inl (A6 (x:=rq n s (r.getD 0 0)) s9).symm
  ·rw[JN.mp hx]
   exact .inr (.inl (A6 (x:=rm n o (r.getD 0 0)) o9).symm)
 ·obtain⟨k,hk,rfl⟩:=Kt.mp hx
  exact .inr (.inr ⟨k,List.mem_range.mp hk,(A6 (x:=pR n (ij ns k) (r.getD k 0)) (qZ ns k).2).symm⟩)
theorem xN.turn{ns:List Int}{n r:KI}{s o:Int}{rs:Yaa}(h:xN ns n r s o rs)(t:Nat):xN ns n r s o (rs.drop t++rs.take t):=by
 have hm:∀x,x∈rs.drop t++rs.take t↔x∈rs:=λx=>by
  rw[JY]
  constructor
  ·rintro(h | h)
   ·exact List.mem_of_mem_drop h
   ·exact List.mem_of_mem_take h
  ·intro h
   rw[<- List.take_append_drop t rs]at h;exact(JY.mp h).symm
 exact⟨λx hx=>h.low x ((hm x).mp hx),(hm _).mpr h.has.1,(hm _).mpr h.has.2.1,λk hk=>(hm _).mpr (h.has.2.2 k hk)⟩
theorem xN.twice{ns:List Int}{n r:KI}{s o:Int}{rs:Yaa}(h:xN ns n r s o rs){m:Int}(hm:0<=m):xN ns n r s o (rs++rs.map (kE m)):=by
 refine⟨λx hx=>?_,List.mem_append_left _ h.has.1,List.mem_append_left _ h.has.2.1,λk hk=>List.mem_append_left _ (h.has.2.2 k hk)⟩;rcases JY.mp hx with hx | hx
 ·exact h.low x hx
 ·obtain⟨y,hy,rfl⟩:=Kt.mp hx
  obtain⟨m',hm',h1 | h1 | ⟨k,hk,h1⟩⟩:=h.low y hy
  ·exact⟨m'+m,⋯,.inl (by rw[h1,lG hm])⟩
  ·exact⟨m'+m,⋯,.inr (.inl (by rw[h1,lG hm]))⟩
  ·exact⟨m'+m,⋯,.inr (.inr ⟨k,hk,by rw[h1,lG hm]⟩)⟩
theorem xN.sheet{ns:List Int}{n r:KI}{s o:Int}{rs:Yaa}(h:xN ns n r s o rs)(nd:r.Nodup)(s9:s<=9)(o9:o<=9):pT rs n r (ue ns r) s o:=by
 refine⟨λx hx=>?_,⟨_,h.has.1,rfl,rfl,rfl,rfl,rfl⟩,⟨_,h.has.2.1,rfl,rfl,rfl,rfl,rfl⟩,λg hg=>?_⟩
 ·obtain⟨m,hm,rfl | rfl | ⟨k,hk,rfl⟩⟩:=h.low x hx
  ·exact⟨rfl,.inr (.inl ⟨rfl,rfl,rfl,by show s<=min 9 (s+m);omega⟩)⟩
  ·exact⟨rfl,.inr (.inr ⟨rfl,rfl,rfl,by show o<=min 9 (o+m);omega⟩)⟩
  ·refine⟨rfl,.inl ⟨rfl,r.getD k 0,rfl,?_⟩⟩
   rw[lA ns nd hk];show ij ns k<=min 9 (ij ns k+m);have:=(qZ ns k).2;omega
 ·obtain⟨k,hk,rfl⟩:=List.mem_iff_getElem.mp hg
  have h1:=h.has.2.2 k hk;rw[eY hk]at h1;exact⟨_,h1,rfl,rfl,rfl,by rw[<- eY hk,lA ns nd hk];rfl⟩
theorem xN.good{ns:List Int}{n r:KI}{s o:Int}{rs:Yaa}(h:xN ns n r s o rs)(so:DE r)(r1:1<=r.length)(hn:df n=true)(s1:1<=s)(o1:1<=o):∀x∈rs,xA [n] r x:=by
 intro x hx;have g0:r.getD 0 0∈r:=by rw[eY r1];exact JT _
 have mk:∀{k:Nat} {c:Int} {g:Nat} {m:Int},k<4->1<=c->g∈r->0<=m->xA [n] r (kE m (k,⟨n,c,n,n,[g],0⟩)):=fun{k c g m} hk hc hg hm=>by
  have gd:(⟨n,min 9 (c+m),n,n,[g],0⟩:RV).good:=⟨hn,by show 1<=min 9 (c+m);omega,by show min 9 (c+m)<=9;omega,hn,hn,so.one g hg,Int.le_refl 0,(by decide:(0:Int)<=7)⟩;exact⟨⟨hk,gd,gd.small⟩,JN.mpr rfl,JN.mpr rfl,JN.mpr rfl,⟨g,hg,rfl⟩⟩
 obtain⟨m,hm,rfl | rfl | ⟨k,hk,rfl⟩⟩:=h.low x hx
 ·exact mk nofun s1 g0 hm
 ·exact mk nofun o1 g0 hm
 ·exact mk nofun (qZ ns k).1 (by rw[eY hk];exact JT _) hm
theorem BT{n:KI}{rs:Yaa}{r:KI}(h:∀x∈rs,xA [n] r x):(bd (tx n) rs).map (·.1)=[n].map tx:=by
 have nd:=(i7 (tx n) rs.length rs rfl).nd;have hk:∀z∈(bd (tx n) rs).map (·.1),z=tx n:=λz hz=>by
  rcases(kh _ _ _).mp hz with e | ⟨q,hq,e⟩
  ·exact e
  ·unfold Fk at hq
   obtain⟨x,hx,rfl⟩:=Kt.mp hq;have R:=h x hx;rcases e with e | e
   ·rw[e];exact congrArg tx (JN.mp R.n)
   ·obtain⟨y,hy,rfl⟩:=Kt.mp e
    obtain⟨k,v⟩:=x;have o1:v.o1=n:=JN.mp R.o1;have o2:v.o2=n:=JN.mp R.o2;rcases fQ R.good.k4 with rfl | rfl | rfl | rfl
    ·exact absurd hy List.not_mem_nil
    ·rcases(show y=v.o1\/y=v.o2 by simpa[bR]using hy) with rfl | rfl
     ·rw[o1]
     ·rw[o2]
    ·rcases(show y=v.o1\/y=v.o2 by simpa[bR]using hy) with rfl | rfl
     ·rw[o1]
     ·rw[o2]
    ·rw[show y=v.o1 by simpa[bR]using hy,o1]
 have hi:=(kh (tx n) rs (tx n)).mpr (.inl rfl);generalize(bd (tx n) rs).map (·.1)=zs at nd hk hi
 match zs,nd,hk,hi with
 | [z],_,hk,_=>rw[hk z (by simp)];rfl
 |z::y::zs,nd,hk,_=>
  have h1:=hk z (by simp);have h2:=hk y (by simp);rw[h1,h2]at nd;simp at nd
theorem Cq(m:Int){x:Nat×RV}(h:x.1<4):∃w1 w2,yJ x=[.int (x.1:Int),.str (tx x.2.n),.int x.2.c,w1,w2]/\yJ (kE m x)=[.int (x.1:Int),.str (tx x.2.n),.int (min 9 (x.2.c+m)),w1,w2]:=by
 obtain⟨k,v⟩:=x;rcases fQ h with e | e | e | e<;>(simp only at e;subst e)
 ·exact⟨_,_,rfl,rfl⟩
 ·exact⟨_,_,rfl,rfl⟩
 ·exact⟨_,_,rfl,rfl⟩
 ·exact⟨_,_,rfl,rfl⟩
abbrev pV:Stmt:=gW 68
inductive ro(K:W.Frag)(vs:List V)(H:Hp)(Q:VK)(_E:XK):Prop
 |mk (a:Addr) (ns:List Int) (_:vs=[.ref a]) (_:aQ K H a (ns.map V.int)) (_:∀H',Q (.bl true) H')
theorem E8:aB ["_law_script","_law_signs_here","_law_name","_law_picture_here","_law_side","_law_over","_law_costs","_law_rules","_law_k","_law_sign","_law_turn","_law_more","_law_grammar_here","_law_found","_law_told","_law_rows","_law_part"] ["_law_script"] (ak pV):=by walk_at "c"
theorem E2{R:RC}{f CG CN_:Addr}{fd:KO}(F:dw K "law" "law" pV f fd)(nb:NB mg)(zia:dL P w K mg base bB 1 "_law_cell" ["_law_script","_law_k"] (kK K))(zKb:dL P w K mg base bB 1 "_law_whole" ["_law_x"] nI)(zLb:dL P w K mg base bB 1 "_law_signs" ["_law_cell_here","_law_many"] oO)(zMb:dL P w K mg base bB 1 "_law_names" ["_law_cell_here","_law_many"] oB)(zqb:dL P w K mg base bB 2 "_law_picture" ["_law_script","_law_signs_here"] (kz K))(zrb:dL P w K mg base bB 6 "_law_grammar" ["_law_signs_here","_law_start","_law_rules"] (ky R CG))(zdc:dL P w K mg base bB 1 "_law_text" ["_law_picture_here"] (qj K))(zTb:dL P w K mg base bB 2 "_law_due" ["_law_picture_here","_law_costs","_law_side","_law_over"] (uM K))(yav:E3 P w K mg base (dz P w) 11 "least_cost" ["grammar","picture","name"] (ju K R CG CN_) [.non])(yai:dL P w K mg base bB 10 "table_of" ["grammar","picture"] (fK K R CG)):aR P w K mg base bB 12 f fd ["_law_script"] (ro K):=by
 have sc:=E8;walk_at "f"
 ·obtain⟨a,ns,rfl,_⟩:=h;rfl
 ·obtain⟨a,ns,rfl,hS,q⟩:=h
  have hu:=hr.units;refine⟨_,(af (aH (i:=1) sc.nd rfl (Or.inl rfl) (aE zLb (hr.mono nofun) rfl aM (ac (aE zia (hr.mono nofun) rfl aM (ac (al 0) (bA ad))) (ac (az (bx.m0 bi) am (az (bx.m1 bG) (az (bx.m1 cj) (aE zia (hr.mono nofun) rfl aM (ac (al 0) (bA ad))) am) am)) ad))))
   (af (aH (i:=2) sc.nd rfl (Or.inl rfl) (cR cW (aE zMb (hr.mono nofun) rfl aM (ac (aE zia (hr.mono nofun) rfl aM (ac (al 0) (bA ad))) (bA ad))) am (λ_ _=>rfl)))
   (af (aH (i:=3) sc.nd rfl (Or.inl rfl) (aE zqb (hr.mono nofun) rfl aM (ac (al 0) (ac (al 1) ad))))
   (af (aH (i:=4) sc.nd rfl (Or.inl rfl) (az (bx.m0 bi) am (az (bx.m1 bG) (aE zia (hr.mono nofun) rfl aM (ac (al 0) (bA ad))) am)))
   (af (aH (i:=5) sc.nd rfl (Or.inl rfl) (az (bx.m0 bi) am (az (bx.m1 bG) (aE zia (hr.mono nofun) rfl aM (ac (al 0) (bA ad))) am)))
   (af (aH (i:=6) sc.nd rfl (Or.inl rfl) oz)
   (af (aH (i:=7) sc.nd rfl (Or.inl rfl) (bE (ac (bJ (bA (ac (al 2) (ac (al 4) (ac (al 2) (ac (al 2) ad)))))) (ac (bJ (bA (ac (al 2) (ac (al 5) (ac (al 2) (ac (al 2) ad)))))) ad))))
   (af (bj PassesOwn.never rfl (mU rfl nb.enumerate (ac (al 1) ad)) (jE (n:=2) rfl (aS (aA (i:=8) sc.nd rfl (Or.inl rfl)) (aS (aA (i:=9) sc.nd rfl (Or.inl rfl)) dU)))
   (af (m7 (Kq (Kv (by decide:1<=64) _) hu) (al 6) (al 9) (az (bx.m0 bi) am (az (bx.m1 bG) (aE zia (hr.mono nofun) rfl aM (ac (al 0) (ac (az (bx.m0 bi) am (al 8)) ad))) am)) rfl)
   (ag (bw (eC PySem.F.plainAttrs_list PySem.F.slot_list_append PySem.F.type_list_append bX (al 7) (ac (bJ (bA (ac (al 2) (ac (iX (Kq (Kv (by decide:1<=64) _) hu) (al 6) (al 9) (λ_ _=>rfl)) (ac (al 9) (b5 ad)))))) ad))))))
   (af (aH (i:=10) sc.nd rfl (Or.inl rfl) (az (bx.m1 bG) (aE zia (hr.mono nofun) rfl aM (ac (al 0) (bA ad))) (aP cI rfl nb.len b_ (ac (al 7) ad))))
   (af (aH (i:=7) sc.nd rfl (Or.inl rfl) (az wm (dk i9 (al 7) (dr (al 10)) fF) (dk i9 (al 7) fF (dr (al 10)))))
   (af (ce (br jZ (az (bx.m1 bG) (az (bx.m1 cj) (aE zia (hr.mono nofun) rfl aM (ac (al 0) (bA ad))) am) am) am (bO _))
   (af (aH (i:=11) sc.nd rfl (Or.inr rfl) (az (bx.m1 bG) (az (bx.m1 cj) (aE zia (hr.mono nofun) rfl aM (ac (al 0) (bA ad))) am) am))
   (ag (aH (i:=7) sc.nd rfl (Or.inl rfl) (az wm (al 7) (c5 ["_law_kind","_law_some","_law_cost","_law_one","_law_other"] [11] rfl (bH.of (by kernel_rfl)) (by kernel_rfl) (bD (al 7))
    (λ_ _ _ _=>(mR (K:=K) (n:=5) rfl rfl (aS (aA (i:=0) (by show(["_law_kind","_law_some","_law_cost","_law_one","_law_other","_law_more"]:List Str).Nodup;decide +kernel) rfl (Or.inl rfl)) (aS (aA (i:=1) (by show(["_law_kind","_law_some","_law_cost","_law_one","_law_other","_law_more"]:List Str).Nodup;decide +kernel) rfl (Or.inl rfl)) (aS (aA (i:=2) (by show(["_law_kind","_law_some","_law_cost","_law_one","_law_other","_law_more"]:List Str).Nodup;decide +kernel) rfl (Or.inl rfl)) (aS (aA (i:=3) (by show(["_law_kind","_law_some","_law_cost","_law_one","_law_other","_law_more"]:List Str).Nodup;decide +kernel) rfl (Or.inl rfl)) (aS (aA (i:=4) (by show(["_law_kind","_law_some","_law_cost","_law_one","_law_other","_law_more"]:List Str).Nodup;decide +kernel) rfl (Or.inl rfl)) dU))))))) (λ_ _ _ _=>cN) (λ_ _ _ _=>(bJ (ac (al 0) (ac (al 1) (ac (aP (qz rfl) rfl nb.min B5 (bA (ac (az (bx.m0 bi) (al 2) (al 5)) ad))) (ac (al 3) (ac (al 4) ad))))))))))))
   bu)
   (af (aH (i:=12) sc.nd rfl (Or.inl rfl) (aE zrb (hr.mono nofun) rfl aM (ac (al 1) (ac (al 2) (ac (al 7) ad)))))
   (af (aH (i:=13) sc.nd rfl (Or.inl rfl) (CA (CX:=dz P w) yav (hr.mono nofun) rfl bY (ac (al 12) (ac (c8 cg rfl nb.list eV (ac (al 3) ad)) ad))))
   (af (ce (PW.pt (xk (lh (jr (aE zKb (hr.mono nofun) rfl aM (ac (al 13) ad)) λ_=>rfl)) (tM (br Aw (al 13) (aE zTb (hr.mono nofun) rfl aM (ac (al 3) (ac (al 6) (ac (al 4) (ac (al 5) ad))))) (bO _)))))
   (ag (aJ md))
   bu)
   (af (aH (i:=14) sc.nd rfl (Or.inl rfl) (aE yai (hr.mono nofun) rfl aM (ac (al 12) (ac (c8 cg rfl nb.list eV (ac (al 3) ad)) ad))))
   (af (bj PassesOwn.never rfl (iW rfl nb.range (bA (ac (az (bx.m0 bi) (aP cI rfl nb.len b_ (ac (al 3) ad)) am) ad))) (aA (i:=15) sc.nd rfl (Or.inl rfl))
   (af (gH (i:=16) ["_law_row"] [0] sc.nd rfl (Or.inl rfl) rfl  rfl (bH.of (by kernel_rfl)) (by kernel_rfl) (bD (dk i9 (al 3) fF (dr (al 15))))
    (λ_ _ _ _=>(aA (i:=0) (by show(["_law_row","_law_script"]:List Str).Nodup;decide +kernel) rfl (Or.inl rfl))) (λ_ _ _ _=>cN) (λ_ _ _ _=>(dk qV (al 0) fF (dr (az (bx.m0 bi) am (az (bx.m1 bG) (az (bx.m1 cj) (aE zia (hr.mono nofun) rfl aM (ac (al 1) (bA ad))) am) (aP bL rfl nb.len b_ (ac (al 0) ad))))))))
   (ag (ce (br Aw (vb (Kq (Kv (by decide:1<=64) _) hu) (al 14) (bJ (ac (aE zdc (hr.mono nofun) rfl aM (ac (al 16) ad)) (ac (al 2) ad))) ⟨rfl,rfl,rfl,rfl⟩) (aE zTb (hr.mono nofun) rfl aM (ac (al 16) (ac (al 6) (ac (al 4) (ac (al 5) ad))))) (bO _))
   (ag (aJ md))
   bu))))
   (ag (aJ md)))))))))))))))))),?_⟩
  obtain⟨m0,hm0⟩:∃m:Nat,aX ns 0/156%2=(m:Int):=⟨_,(KA ⋯).symm⟩;walk_at "n";refine⟨a,ns,0,rfl,hS,⋯,a,ns,0,rfl,hS,⋯,_,rfl,aX ns 0,m0,by rw[hm0],⋯,λls r H1 hls els so hrl s1=>h1 _ _ ?_⟩;clear h1;have r1:1<=r.length:=by omega
  have r2:r.length<=2:=by omega
  have hS1:=s1.seq hS;walk_at "n";refine⟨a,ns,2,rfl,hS1,⋯,aX ns 2,0,rfl,⋯,λln p0 H2 hln eln hpl hpn s2=>?_⟩;obtain⟨n,rfl⟩:∃n,p0=[n]:=List.length_eq_one_iff.mp hpl;have hn:df n=true:=hpn n (by simp);refine⟨ln,rfl,_,aQ.of eln,_,(rfl:vq [V.str (tx n)] 0=some (V.str (tx n))),h1 _ _ ?_⟩;clear h1 hpn hpl;have sA:=s1.trans s2;have els2:=s2 _ _ els;walk_at "n";refine⟨a,ls,ns,r,rfl,sA.seq hS,els2,r1,r2,λlp p ra ca H3 hlp elp hpr a1 a6 b1 b6 hcl s3=>h1 _ _ ?_⟩;clear h1;have sB:=sA.trans s3;have els3:=s3 _ _ els2;have hS3:=sB.seq hS;have hPR:ii r p ra ca:=⟨hpr,a1,a6,b1,b6,hcl⟩;walk_at "n";refine⟨a,ns,3,rfl,hS3,⋯,_,rfl,h1 _ _ ?_⟩;clear h1;obtain⟨s_,hs_⟩:∃x,x=1+aX ns 3%9:=⟨_,rfl⟩;have ss1:1<=s_:=by omega
  have ss9:s_<=9:=by omega
  rw[<- hs_];walk_at "n";refine⟨a,ns,4,rfl,hS3,⋯,_,rfl,h1 _ _ ?_⟩;clear h1;obtain⟨o_,ho_⟩:∃x,x=1+aX ns 4%9:=⟨_,rfl⟩;have oo1:1<=o_:=by omega
  have oo9:o_<=9:=by omega
  rw[<- ho_];clear hs_ ho_;walk_at "n";intro dc hdc;refine h1 _ _ ?_;clear h1;have s4:=aj (o:=.dK []) hdc;have e4:aC H3 dc (.dK []) dc=some (.dK []):=ae;have sC:=sB.trans s4;have hdc0:=sB.free hdc;generalize aC H3 dc (.dK [])=H4 at s4 e4 sC ⊢;walk_at "n";refine⟨au nofun,λt1 ht1=>⟨au nofun,λt2 ht2=>⟨au nofun,λlr hlr=>h1 _ _ ?_⟩⟩⟩;clear h1;generalize z0:aC H4 t1 _=H5 at ht2 hlr ⊢;obtain⟨s5,(e5:d9 H5 t1 (rq n s_ (r.getD 0 0)))⟩:=iH ht1 z0;generalize z0:aC H5 t2 _=H6 at hlr ⊢;obtain⟨s6,(e6:d9 H6 t2 (rm n o_ (r.getD 0 0)))⟩:=iH ht2 z0;have s7:=aj (o:=.lst [V.ref t1,V.ref t2]) hlr;have e7:aC H6 lr (.lst [V.ref t1,V.ref t2]) lr=some (.lst ([t1,t2].map V.ref)):=ae;have r7:aK d9 (aC H6 lr (.lst [V.ref t1,V.ref t2])) [t1,t2] [rq n s_ (r.getD 0 0),rm n o_ (r.getD 0 0)]:=aK.two ((e5.up s6).up s7) (e6.up s7);generalize aC H6 lr (.lst [V.ref t1,V.ref t2])=H7 at s7 e7 r7 ⊢;have sD:=s4.trans (s5.trans (s6.trans s7));have sE:=sB.trans sD;have e47:=(s5.trans (s6.trans s7)) _ _ e4;have els7:=sD _ _ els3;have elp7:=sD _ _ elp;have hS7:=sE.seq hS;have hlr3:H3 lr=none:=(s4.trans (s5.trans s6)).free hlr;have hdc3:=hdc;have hlrd:lr≠dc:=λe=>by rw[e,e47]at e7;cases e7
  clear s5 s6 s7 e5 e6 ht1 ht2 hlr e4 s4 hdc sC;walk_at "n";have hol:(ar (cH r)).length=r.length:=by rw[aq];unfold cH;rw[JM]
  have hsg:∀{i:Nat},i<r.length->(ar (cH r))[i]?=some (V.str (tx [r.getD i 0])):=fun{i} hi=>by
   unfold ar cH;rw[JZ,JO,JJ hi,eY hi];rfl
  refine⟨_,aQ.of els7,?_⟩;refine kM (xs:=ar (cH r)) (λi σ H'=>aD H3 H'/\i<=r.length/\H' dc=some (.dK (cU ns r i))/\(∃ts:List Addr,H' lr=some (.lst (ts.map V.ref))/\aK d9 H' ts ([rq n s_ (r.getD 0 0),rm n o_ (r.getD 0 0)]++fY ns n r i))/\∃x8 x9,σ=[some (V.ref a),some (V.ref ls),some (V.str (tx n)),some (V.ref lp),some (V.int s_),some (V.int o_),some (V.ref dc),some (V.ref lr),x8,x9,none,none,none,none,none,none,none]) ⟨sD,J9 _,e47,⟨[t1,t2],e7,r7⟩,_,_,rfl⟩ (λi σ H' _ h=>aQ.of (h.1 _ _ els3)) ?_ ?_
  ·rintro i x σ H' T hx ⟨sm,hi,hd,⟨ts,hts,hA⟩,x8,x9,rfl⟩ hT
   have B9:i<r.length:=by have:=(JK.mp hx).1;omega
   rw[hsg B9]at hx;cases hx;generalize z0:aC H' T _=HT;obtain⟨sT,eT⟩:=iH hT z0;have smT:=sm.trans sT;have hdT:=sT _ _ hd;have htT:=sT _ _ hts;have hAT:=hA.mono λb y _ _ (h:d9 H' b y)=>h.up sT;walk_at "wp";refine⟨_,jv.of eT,rfl,_,_,rfl,_,_,rfl,rfl,?_⟩;have hAl:=hA.1;have hcl2:(cU ns r i).length=i:=by unfold cU;rw[JM,List.length_range]
   have hkl:(fY ns n r i).length=i:=by unfold fY;rw[JM,List.length_range]
   rw[J7,hkl]at hAl;have hput:vL HT dc (V.str (tx [r.getD i 0])) (V.int (1+aX ns (5+i)%9)) (aC HT dc (.dK (cU ns r (i+1)))):=.inl ⟨cU ns r i,.inr (tx [r.getD i 0]),hdT,rfl,by rw[hcl2];exact bh ⋯,by rw[<- yi ns so.nd B9];rfl⟩;have e8:aC HT dc (.dK (cU ns r (i+1))) dc=some (.dK (cU ns r (i+1))):=ae;have t8:aC HT dc (.dK (cU ns r (i+1))) lr=some (.lst (ts.map V.ref)):=by rw[ai hlrd];exact htT
   have s8:aD H3 (aC HT dc (.dK (cU ns r (i+1)))):=bQ smT hdc3;have A8:=hAT.mono λb y _ _ (h:d9 HT b y)=>h.putD (o:=.dK (cU ns r (i+1))) hdT;refine⟨i,rfl,a,ns,5+i,by push_cast;rfl,(sB.trans smT).seq hS,⋯,_,rfl,_,hput,?_⟩;generalize aC HT dc (.dK (cU ns r (i+1)))=H8 at e8 t8 s8 A8 ⊢;refine⟨.inl ⟨rfl,_,aQ.of t8⟩,.int (ij ns i),.inl ⟨_,.inr (tx [r.getD i 0]),.inl e8,rfl,(ld ns so.nd B9 (i+1) ⋯ ⋯).symm⟩,au nofun,λtp htp=>?_⟩;generalize z0:aC H8 tp _=H9;obtain⟨s9,(e9:d9 H9 tp (pR n (ij ns i) (r.getD i 0)))⟩:=iH htp z0;have t9:=s9 _ _ t8;refine⟨_,t9,by rw[JM,hAl];exact bh (by simp;omega),bQ (s8.trans s9) hlr3,B9,by rw[ai (Ne.symm hlrd)];exact s9 _ _ e8,ts++[tp],by rw[ae,JX];rfl,?_⟩;have ec:fY ns n r (i+1)=fY ns n r i++[pR n (ij ns i) (r.getD i 0)]:=by unfold fY;rw[List.range_succ,JX];rfl
   rw[ec];exact(A8.mono λb y _ _ (h:d9 H8 b y)=>(h.up s9).putL t9).snoc (e9.putL t9)
  ·rintro σ H' ⟨sm,_,hd,⟨ts,hts,hA⟩,x8,x9,rfl⟩
   rw[hol]at hd hA;refine h1 _ _ ?_;walk_at "nc";have hRl:=xN.first ns (n:=n) (r:=r) ss9 oo9;have hrl1:([rq n s_ (r.getD 0 0),rm n o_ (r.getD 0 0)]++fY ns n r r.length).length=2+r.length:=by unfold fY;rw[J7,JM,List.length_range];rfl
   generalize[rq n s_ (r.getD 0 0),rm n o_ (r.getD 0 0)]++fY ns n r r.length=rs1 at hA hRl hrl1;have hAl:=hA.1;obtain⟨t,ht⟩:∃t:Nat,aX ns 7%((ts.map V.ref).length:Int)=(t:Int):=⟨_,(KA (Kz _ (by rw[JM];omega))).symm⟩;have htl:t<ts.length:=by
    have:=Int.emod_lt_of_pos (aX ns 7) (show(0:Int)<((ts.map V.ref).length:Int) by rw[JM];omega);rw[ht,JM]at this;omega
   have hSm:=(sB.trans sm).seq hS;refine⟨a,ns,7,rfl,hSm,⋯,_,aQ.of hts,_,rfl,by rw[JM];omega,?_⟩;rw[ht];refine h1 _ _ ?_;walk_at "nc";refine⟨_,aQ.of hts,λl2 hl2=>?_⟩;rw[yU (xs:=ts.map V.ref) (by rw[JM];omega)];generalize z0:aC H' l2 _=H8;obtain⟨s8,e8⟩:=iH hl2 z0;refine⟨_,aQ.of (s8 _ _ hts),λl3 hl3=>?_⟩;rw[xh (xs:=ts.map V.ref) (by rw[JM];omega)];generalize z0:aC H8 l3 _=H9;obtain⟨s9,e9⟩:=iH hl3 z0;refine⟨_,s9 _ _ e8,_,e9,by rw[Kl,Kk,JM];exact au ⋯,λl4 hl4=>h1 _ _ ?_⟩;clear h1;have s10:=aj (o:=.lst ((ts.map V.ref).drop t++(ts.map V.ref).take t)) hl4;have e10:aC H9 l4 (.lst ((ts.map V.ref).drop t++(ts.map V.ref).take t)) l4=some (.lst ((ts.drop t++ts.take t).map V.ref)):=by rw[ae,JX,List.map_drop,List.map_take]
   generalize aC H9 l4 (.lst ((ts.map V.ref).drop t++(ts.map V.ref).take t))=H10 at s10 e10 ⊢;have sF:=s8.trans (s9.trans s10);have hA10:=aK.app ((aK.drop hA t).mono λb y _ _ (h:d9 H' b y)=>h.up sF) ((aK.take hA t).mono λb y _ _ (h:d9 H' b y)=>h.up sF);have hRl2:=hRl.turn t;have hl10:(rs1.drop t++rs1.take t).length=rs1.length:=by rw[J7,Kl,Kk];omega
   generalize rs1.drop t++rs1.take t=rs2 at hA10 hRl2 hl10;generalize ts.drop t++ts.take t=ts2 at hA10 e10;have hd10:=sF _ _ hd;have smG:=sm.trans sF;clear s8 e8 s9 e9 s10 hl2 hl3 hl4 hA hRl sF hts hd sm hSm;have hA2l:=hA10.1;walk_at "n"
   -- the aY,from any list of rules
   have aY:∀(l5:Addr) (ts5:KM) (rs5:Yaa) (H11:Hp) (x11:Option V),aD H3 H11->H11 dc=some (.dK (cU ns r r.length))->H11 l5=some (.lst (ts5.map V.ref))->aK d9 H11 ts5 rs5->xN ns n r s_ o_ rs5->rs5.length<=8->N1 [some (V.ref a),some (V.ref ls),some (V.str (tx n)),some (V.ref lp),some (V.int s_),some (V.int o_),some (V.ref dc),some (V.ref l5),x8,x9,some (V.int (t:Int)),x11,none,none,none,none,none] H11:=by
    intro l5 ts5 rs5 H11 x11 sm hd h5 hA hR hl;refine h1 _ _ ?_;clear h1 hA10 hRl2 hl10 e10 hd10 smG hA2l;have hrow:=hR.good so r1 hn ss1 oo1;have ya6:∀x∈rs5,pP x:=λx hx=>(hrow x hx).good;have hnl:=i_ hn;walk_at "n";refine⟨l5,ls,r,n,ts5,rs5,rfl,sm _ _ els3,⟨h5,hA.1,λi b y e1 e2=>hA.2 i b y e1 e2⟩,ya6,⋯,⋯,⋯,yp (p:=[n]) so.ok (JN.mpr rfl) (λy hy=>by rw[JN.mp hy];exact hn) (by simp) ⋯ hrow,λg dg as H12 hG s12=>h1 _ _ ?_⟩;clear h1;have smA:=sm.trans s12;have hdA:=s12 _ _ hd;have elpA:=smA _ _ elp;have hE:kq rs5 [n] p ra ca:=⟨hpr,⋯,⋯,a6,b6,(hPR.ok so.ns).2,ya6,λx hx=>(hrow x hx).n,by simp,⋯⟩;have hnm:=BT hrow;have hSh:=hR.sheet so.nd ss9 oo9;have hval:∀x∈r,cQ (cU ns r r.length) (.inr ⟨#[x]⟩)=some (.int (ue ns r x)):=λx hx=>by
     obtain⟨k,hk,rfl⟩:=List.mem_iff_getElem.mp hx;have:=ld ns so.nd hk r.length hk (J8 _);rw[<- eY hk,lA ns so.nd hk];exact this
    walk_at "n";refine⟨_,.inl (aQ.of elpA),λlq hlq=>?_⟩;generalize z0:aC H12 lq _=H13;obtain⟨s13,e13⟩:=iH hlq z0;refine⟨g,dg,lq,r,n,as,rs5,[n],p,ra,ca,.non,rfl,hG.up s13,hnm,hE,e13,.inl ⟨rfl,λH14 tb hB s14=>h1 _ _ ?_⟩⟩;clear h1;rw[nz hE hB hSh so.ns ss1 oo1 (bc.self hpr ⋯ ⋯) hPR];have sG:=s13.trans s14;have yaZ:∀{p':aF} {a' b':Nat},ii r p' a' b'->∀x∈p'.flatten,cQ (cU ns r r.length) (.inr ⟨#[x]⟩)=some (.int (ue ns r x)):=fun{p' a' b'} h x hx=>by
     obtain⟨row,hrow',hx'⟩:=List.mem_flatten.mp hx;exact hval x (h.cells row hrow' x hx')
    walk_at "n";refine⟨_,rfl,true,rfl,?_⟩;rw[if_neg (by simp)];refine⟨lp,dc,p,ra,ca,cU ns r r.length,ue ns r,s_,o_,rfl,sG _ _ elpA,hpr,a1,a6,b1,b6,sG _ _ hdA,yaZ hPR,ss1,ss9,oo1,oo9,rfl,?_⟩;rw[if_neg (λh=>h rfl)];refine h1 _ _ ?_;clear h1 hB;walk_at "n";refine⟨_,.inl (aQ.of (sG _ _ elpA)),λlq2 hlq2=>?_⟩;generalize z0:aC H14 lq2 _=H15;obtain⟨s15,e15⟩:=iH hlq2 z0;refine⟨g,dg,lq2,r,n,as,rs5,[n],p,ra,ca,rfl,(hG.up sG).up s15,hnm,hE,aQ.of e15,λd H16 tb2 hd2 hT2 hB2 s16=>h1 _ _ ?_⟩;clear h1;have sH:=sG.trans (s15.trans s16);have ya3:=sH _ _ elpA;have hd16:=sH _ _ hdA;have hS16:=(sB.trans (smA.trans sH)).seq hS;walk_at "n";refine⟨_,aQ.of ya3,nofun,⋯,by rw[aq,hpr.1];omega,?_⟩;rw[aq,hpr.1,show((ra:Int)+1-1).toNat=ra by omega];obtain⟨c0,hc0⟩:∃c:Nat,aX ns 1/36%(ca:Int)=(c:Int):=⟨_,(KA (Kz _ ⋯)).symm⟩;have hc1:c0<ca:=by
     have:=Int.emod_lt_of_pos (aX ns 1/36) (show(0:Int)<(ca:Int) by omega);omega
    refine b7 (lo:=1) (n:=ra) (λi σ H'=>aD H16 H'/\∃x15 x16,σ=[some (V.ref a),some (V.ref ls),some (V.str (tx n)),some (V.ref lp),some (V.int s_),some (V.int o_),some (V.ref dc),some (V.ref l5),x8,x9,some (V.int (t:Int)),x11,some (V.ref g),some (qH (some (qY (ue ns r) s_ o_ p ra ca))),some (V.ref d),x15,x16]) ⟨λ_ _ h=>h,_,_,rfl⟩ ?_ ?_
    ·rintro i σ H17 hi ⟨s17,x15,x16,rfl⟩
     have ybj:=s17 _ _ ya3;walk_at "n";refine⟨_,aQ.of ybj,λl7 hl7=>?_⟩;rw[show(1+(i:Int))=((i+1:Nat):Int) by push_cast;rw[Int.add_comm],xh (xs:=ar p) (by rw[aq,hpr.1];omega)];have er:(ar p).take (i+1)=ar (p.take (i+1)):=by unfold ar;rw[List.map_take]
     rw[er];generalize z0:aC H17 l7 _=H18;obtain⟨s18,e18⟩:=iH hl7 z0;have hrt:=(kZ hpr (show i+1<=ra by omega)).1;refine⟨⟨_,aQ.of e18⟩,?_⟩;refine oU (as:=p.take (i+1)) (emb:=λrow=>V.str (tx row)) (f:=λrow=>some (V.str (tx (row.take (1+c0))))) (λσ=>∃x,σ=[x,some (V.ref a)]) ⟨_,rfl⟩ (λH2 s2=>aQ.of (s2 _ _ e18)) (by rw[hrt.1];omega) ?_ ?_
     ·rintro j row hrow' σ H19 M1 M0 ⟨y,rfl⟩ s19 k1 k0
      have hrl':row.length=ca:=hrt.2 row (JP hrow');walk_at "wp";refine⟨a,ns,1,rfl,((s17.trans s18).trans s19).seq hS16,⋯,_,rfl,by rw[aG];exact au ⋯,by rw[aG];omega,by rw[aG];exact au ⋯,?_⟩;rw[aG,hrl',hc0,show(1+(c0:Int))=((1+c0:Nat):Int) by push_cast;rfl,vN ⋯];exact k1 _ _ _ rfl s19 ⟨_,rfl⟩
     ·intro H19 s19 l8 hl8
      rw[mY];have e19':(p.take (i+1)).map (λrow=>V.str (tx (row.take (1+c0))))=ar ((p.take (i+1)).map (List.take (1+c0))):=by unfold ar;rw[JZ];rfl
      rw[e19'];refine h1 _ _ ?_;clear h1;have hPR2:ii r ((p.take (i+1)).map (List.take (1+c0))) (i+1) (1+c0):=⟨(kL hrt ⋯).1,⋯,⋯,⋯,⋯,λrow hr x hx=>by
       obtain⟨y,hy,rfl⟩:=Kt.mp hr;exact hcl y (List.mem_of_mem_take hy) x (List.mem_of_mem_take hx)⟩
      have hsn2:bc p ra ca ((p.take (i+1)).map (List.take (1+c0))):=⟨0,0,i+1,1+c0,0,⋯,⋯,⋯,⋯,⋯,rfl⟩;generalize(p.take (i+1)).map (List.take (1+c0))=p2 at hPR2 hsn2;generalize z0:aC H19 l8 _=H20;obtain⟨s20,e20⟩:=iH hl8 z0;have yaL:=s17.trans (s18.trans (s19.trans s20));have hT20:bT H20 d tb2:=hT2.up yaL;walk_at "wp";refine⟨.inr ⟨_,.inl hT20⟩,l8,p2,rfl,e20,dH.of hPR2.rc (by have:=hPR2.a6;omega) (by have:=hPR2.b6;omega),au nofun,λtp htp=>?_⟩;generalize z0:aC H20 tp _=H21;obtain⟨s21,(e21:aT H21 tp (aZ p2,n))⟩:=iH htp z0;refine⟨_,(hT20.up s21).told.get e21,?_⟩;rw[nz hE hB2 hSh so.ns ss1 oo1 hsn2 hPR2];refine⟨l8,dc,p2,i+1,1+c0,cU ns r r.length,ue ns r,s_,o_,rfl,s21 _ _ e20,hPR2.rc,hPR2.a1,hPR2.a6,hPR2.b1,hPR2.b6,(yaL.trans s21) _ _ hd16,yaZ hPR2,ss1,ss9,oo1,oo9,rfl,?_⟩;rw[if_neg (λh=>h rfl)];exact yaL.trans s21
    ·rintro σ H17 ⟨s17,x15,x16,rfl⟩
     refine h1 _ _ ?_;walk_at "wp";exact q _
   refine⟨a,ns,7,rfl,(sB.trans smG).seq hS,⋯,_,rfl,?_⟩;refine mW (λhc=>?_) (λhc=>aY l4 ts2 rs2 H10 none smG hd10 e10 hA10 hRl2 ⋯);refine⟨a,ns,7,rfl,(sB.trans smG).seq hS,⋯,_,rfl,⟨_,aQ.of e10⟩,?_⟩;have m0':0<=aX ns 7/8%3:=by omega
   refine jN d9 d9.up (as:=ts2.zip rs2) (emb:=λx=>V.ref x.1) (ys:=rs2.map (kE (aX ns 7/8%3))) (by rw[List.length_zip,JM];omega) (λσ=>∃y0 y1 y2 y3 y4,σ=[y0,y1,y2,y3,y4,some (V.int (aX ns 7/8%3))]) ⟨_,_,_,_,_,rfl⟩ (λH2 s2=>by rw[<- hA10.zip];exact aQ.of (s2 _ _ e10)) (by rw[List.length_zip];omega) ?_ ?_
   ·rintro i x y hx hy σ H2 M1 M0 ⟨y0,y1,y2,y3,y4,rfl⟩ s2 k1
    obtain⟨hx2,hxA⟩:=hA10.at hx;have hxA2:=hxA.up s2;rw[JO,hx2]at hy;cases hy;obtain⟨w1,w2,ew,ed⟩:=Cq (aX ns 7/8%3) (x:=x.2) (((hRl2.good so r1 hn ss1 oo1) x.2 (JP hx2)).good.k4);unfold d9 at hxA2;rw[ew]at hxA2;walk_at "wp";refine⟨_,jv.of hxA2,rfl,_,_,rfl,_,_,rfl,_,_,rfl,_,_,rfl,_,_,rfl,rfl,?_⟩;refine⟨_,rfl,au nofun,λtp htp=>?_⟩;rw[show(if x.2.2.c+aX ns 7/8%3<9 then x.2.2.c+aX ns 7/8%3 else 9)=min 9 (x.2.2.c+aX ns 7/8%3) by rw[Int.min_def];split<;>split<;>omega];rw[<- ed];exact k1 tp _ _ ae (s2.trans (aj htp)) (aj htp) ⟨_,_,_,_,_,rfl⟩
   ·intro bs H2 s2 hA2 l5 hl5
    generalize z0:aC H2 l5 _=H8;obtain⟨s8,e8⟩:=iH hl5 z0;have hb:=hA2.1;rw[JM]at hb;refine⟨_,s8 _ _ (s2 _ _ e10),_,e8,by rw[JM,JM];exact au ⋯,λl6 hl6=>?_⟩;have s9:=aj (o:=.lst (ts2.map V.ref++bs.map V.ref)) hl6;have sG:=s2.trans (s8.trans s9);refine aY l6 (ts2++bs) (rs2++rs2.map (kE (aX ns 7/8%3))) _ _ (smG.trans sG) (sG _ _ hd10) (by rw[ae,JX]) (aK.app (hA10.mono λb y _ _ (h:d9 H10 b y)=>h.up sG) (hA2.mono λb y _ _ (h:d9 H2 b y)=>h.up (s8.trans s9))) (hRl2.twice m0') (by rw[J7,JM];omega)
end
theorem bdc{n:Nat}{P:List Value->Prop}(h:∀a us,us.length=n->P (a::us)):∀us:List Value,us.length=n+1->P us:=by
 intro us e;cases us with|nil=>cases e|cons a us=>exact h a us (Nat.succ.inj e)
theorem bd0{P:List Value->Prop}(h:P []):∀us:List Value,us.length=0->P us:=by
 intro us e;cases us with|nil=>exact h|cons a us=>cases e
theorem bd1{P:List Value->Prop}(h:∀a,P [a]):∀us:List Value,us.length=1->P us:=bdc λa=>bd0 (P:=λus=>P (a::us)) (h a)
theorem bd2{P:List Value->Prop}(h:∀a b,P [a,b]):∀us:List Value,us.length=2->P us:=bdc λa=>bd1 (P:=λus=>P (a::us)) (h a)
theorem bd3{P:List Value->Prop}(h:∀a b c,P [a,b,c]):∀us:List Value,us.length=3->P us:=bdc λa=>bd2 (P:=λus=>P (a::us)) (h a)
theorem bd4{P:List Value->Prop}(h:∀a b c d,P [a,b,c,d]):∀us:List Value,us.length=4->P us:=bdc λa=>bd3 (P:=λus=>P (a::us)) (h a)
theorem bd5{P:List Value->Prop}(h:∀a b c d e,P [a,b,c,d,e]):∀us:List Value,us.length=5->P us:=bdc λa=>bd4 (P:=λus=>P (a::us)) (h a)
def FK(K:W.Frag)(x:Str)(st:Stmt)(f:Addr):Prop:=W.nsIn K mainGlobals x=some (some (.ref f))/\∃oc od osl kV doc pm an cdv ct,K.lookup f=some ⟨oc,od,.func (W.fnOf x x (cF st) (b9 st) (ak st) .none kV doc pm an cdv ct),osl⟩/\W.codeIn K cdv x=true/\W.keepIn K (.ref f)=true
theorem fk_mk{K:W.Frag}{x:Str}{st:Stmt}{f:Addr}{oc:Value}{od an:KU}{osl:Array (Option Value)}{kV doc pm cdv ct:Value}(a:W.nsIn K mainGlobals x=some (some (.ref f)))(l:K.lookup f=some ⟨oc,od,.func (W.fnOf x x (cF st) (b9 st) (ak st) .none kV doc pm an cdv ct),osl⟩)(c:W.codeIn K cdv x=true)(k:W.keepIn K (.ref f)=true):FK K x st f:=⟨a,oc,od,osl,kV,doc,pm,an,cdv,ct,l,c,k⟩
def MK(K:W.Frag)(x q:Str)(st:Stmt)(f:Addr):Prop:=∃oc od osl kV doc pm an cdv ct,K.lookup f=some ⟨oc,od,.func (W.fnOf x q (cF st) (b9 st) (ak st) .none kV doc pm an cdv ct),osl⟩/\W.codeIn K cdv q=true/\W.keepIn K (.ref f)=true/\W.isFn K (.ref f)=true
theorem mk_mk{K:W.Frag}{x q:Str}{st:Stmt}{f:Addr}{oc:Value}{od an:KU}{osl:Array (Option Value)}{kV doc pm cdv ct:Value}(l:K.lookup f=some ⟨oc,od,.func (W.fnOf x q (cF st) (b9 st) (ak st) .none kV doc pm an cdv ct),osl⟩)(c:W.codeIn K cdv q=true)(k:W.keepIn K (.ref f)=true)(i:W.isFn K (.ref f)=true):MK K x q st f:=⟨oc,od,osl,kV,doc,pm,an,cdv,ct,l,c,k,i⟩
theorem FK.cal{K:W.Frag}{x:Str}{st:Stmt}{f:Addr}{h base:Heap}{mg:KN}{P:KP}{w:KS}{CX:ir}{k:Nat}{ps:KQ}{sp:Sp}(q:FK K x st f)(X:K.In h)(G:h.Ns mainGlobals mg)
  (ok:∀fd,dw K x x st f fd->mg x=some (.ref f)->W.keepIn K (.ref f)=true->dF K fd ps []->aR P w K mg base CX k f fd ps sp)
  (hb:∀(kV doc pm:Value) (an:KU) (cdv ct:Value) (us:KL),us.length=ps.length->bindArgs (W.fnOf x x (cF st) (b9 st) (ak st) .none kV doc pm an cdv ct) ⟨us,[]⟩=pure (ps.zip us)):dL P w K mg base CX k x ps sp:=by
 obtain⟨a,oc,od,osl,kV,doc,pm,an,cdv,ct,l,c,kk⟩:=q;have F:=cz l c kk;have b:=F.binds hb;exact⟨_,_,ok _ F (W.mg_of X G a) kk b,W.mg_of X G a,kk,b⟩
def F5(K:W.Frag)(x:Str)(st:Stmt)(f:Addr):Prop:=W.nsIn K mainGlobals x=some (some (.ref f))/\∃oc od osl kV doc pm an cdv ct dT o n,K.lookup f=some ⟨oc,od,.func (W.fnOf x x (cF st) (b9 st) (ak st) (.ref dT) kV doc pm an cdv ct),osl⟩/\W.codeIn K cdv x=true/\W.keepIn K (.ref f)=true/\K.lookup dT=some o/\o.data=.seq #[.none] n
theorem fkd_mk{K:W.Frag}{x:Str}{st:Stmt}{f dT:Addr}{oc:Value}{od an:KU}{osl:Array (Option Value)}{kV doc pm cdv ct:Value}{o:Obj}{n:Nat}(a:W.nsIn K mainGlobals x=some (some (.ref f)))(l:K.lookup f=some ⟨oc,od,.func (W.fnOf x x (cF st) (b9 st) (ak st) (.ref dT) kV doc pm an cdv ct),osl⟩)(c:W.codeIn K cdv x=true)(k:W.keepIn K (.ref f)=true)(t:K.lookup dT=some o)(d:o.data=.seq #[.none] n):F5 K x st f:=⟨a,oc,od,osl,kV,doc,pm,an,cdv,ct,dT,o,n,l,c,k,t,d⟩
theorem F5.cald{K:W.Frag}{x:Str}{st:Stmt}{f:Addr}{h base:Heap}{mg:KN}{P:KP}{w:KS}{CX:ir}{k:Nat}{ps:KQ}{sp:Sp}(q:F5 K x st f)(X:K.In h)(G:h.Ns mainGlobals mg)
  (ok:∀fd dT,Df K x x st f fd dT->aR P w K mg base CX k f fd ps sp)
  (hb:∀(dT:Addr) (kV doc pm:Value) (an:KU) (cdv ct:Value) (us:KL),us.length+1=ps.length->∃g,bindArgs (W.fnOf x x (cF st) (b9 st) (ak st) (.ref dT) kV doc pm an cdv ct) ⟨us,[]⟩=seqItems? (.ref dT) >>= g/\g (some #[.none])=pure (ps.zip (us++[Value.none]))):E3 P w K mg base CX k x ps sp [.non]:=by
 obtain⟨a,oc,od,osl,kV,doc,pm,an,cdv,ct,dT,o,n,l,c,kk,t,d⟩:=q;refine⟨f,_,[.none],ok _ dT ⟨oc,od,kV,doc,pm,an,cdv,ct,osl,rfl,l,c⟩,W.mg_of X G a,kk,λs us KX hl=>?_,.cons rfl .nil⟩;obtain⟨g,h1,h2⟩:=hb dT kV doc pm an cdv ct us (by rw[J7]at hl;exact hl);exact BindsTo.of_defaults rfl (KX _ _ t) d h1 h2
theorem all_mk{l:W.OpenLaw}{w:KS}{K:W.Frag}{h:Heap}{mg:KN}{fa f1 f2 f3 f4 f5 f6 f7 f8 f9 f10 f11 f12 f13 f14 f15 f16 f17 f18 f19 f20 f21 f22 f23 f24 f25 f26 f27 f28 f29 f30 f31 f32 f33 f34 f35 f36 f37 f38:Addr}(X:K.In h)(G:h.Ns mainGlobals mg)(HU:mg "law"=some (.ref fa))
  (a1:FK K "only_of" kY f1) (a2:FK K "is_name" k8 f2) (a3:FK K "are_signs" iK f3) (a4:FK K "check_made_of" d0 f4) (a5:FK K "numbers_by_name" dG f5) (a6:FK K "mirror" oh f6) (a7:FK K "column_from_below" dh f7) (a8:FK K "quarter" lF f8) (a9:FK K "turned" n6 f9) (Jq:FK K "after" sQ f10) (JF:FK K "back" vt f11) (Jz:FK K "shown" qW f12) (Ik:FK K "windows_of" gz f13) (Jj:FK K "cut_out" kJ f14) (Jo:FK K "cells_then_rows" dC f15) (Hm:FK K "seen_in" lx f16) (HG:FK K "parted" nU f17) (IA:FK K "parted_texts" fq f18) (HE:FK K "cost_by" lE f19) (HJ:FK K "coming" og f20) (Ir:FK K "lower" sM f21) (Ix:FK K "put_together" fk f22) (HL:FK K "turn_about" gK f23) (Jb:FK K "enter_turnings" dO f24) (HP:FK K "enter_seen" gP f25) (Jh:FK K "table_of" jU f26) (Jf:FK K "name_asked" g6 f27) (II:F5 K "least_cost" gI f28) (Hs:FK K "_law_cell" n_ f29) (I9:FK K "_law_whole" lg f30) (IJ:FK K "_law_signs" lL f31) (HF:FK K "_law_names" k9 f32) (Iu:FK K "_law_grammar" iw f33) (Je:FK K "_law_text" oE f34) (Ji:FK K "_law_joints" jT f35) (Hv:FK K "_law_picture" iI f36) (IT:FK K "_law_due" rD f37) (IL:FK K "law" pV f38)
  {zga yac zca zAa yad zFa zea zua zaa zqa zba zsa zda zva zka zGa zza zCa zHa zfa zwa zSa zIa zJa zta yaa yaC yaH:Addr} {ybi ybp ybg ybe ybu ybr ybf:Tok} {ybm ybA ybn ybq ybo:KU} {zyd ybv zpa:ClassData} {zzd ybB zQc ybl:Array (Option Value)} {ybk ybx ybs ya8 ya5 ybw:Value}  (Db:W.nsIn K mainGlobals "NoRule"=some (some (.ref zga))) (zX:K.lookup zga=some ⟨.type "type",ybm,.cls zyd,zzd⟩) (u4:W.excIn K zga [.type "ValueError",.type "Exception",.type "BaseException",.type "object"] "ValueError.__new__"=true) (yD:W.findIn K (.ref zga) "__getattribute__"=some (some (.builtin "BaseException.__getattribute__"))) (xT:W.findIn K (.ref zga) "__getattr__"=some none) (yH:W.mroIn K zga (.type "BaseException")=some true) (zn:W.mroIn K zga (.type "object")=some true) (xV:W.findIn K (.ref zga) "__class__"=some (some (.builtin "object.__class__"))) (Cl:W.specialIn K (.builtin "object.__class__") "__get__"=some (some (.builtin "getset_descriptor.__get__"))) (C8:W.takesIn K (.builtin "object.__class__")=some true) (Cn:W.nsIn K mainGlobals "NoName"=some (some (.ref yac))) (AE:K.lookup yac=some ⟨.type "type",ybA,.cls ybv,ybB⟩) (ux:W.excIn K yac [.type "ValueError",.type "Exception",.type "BaseException",.type "object"] "ValueError.__new__"=true) (ya:W.findIn K (.ref yac) "__getattribute__"=some (some (.builtin "BaseException.__getattribute__"))) (zd:W.findIn K (.ref yac) "__getattr__"=some none) (yZ:W.mroIn K yac (.type "BaseException")=some true) (y_:W.mroIn K yac (.type "object")=some true) (zw:W.findIn K (.ref yac) "__class__"=some (some (.builtin "object.__class__"))) (vC:W.nsIn K mainGlobals "NoGrammar"=some (some (.ref zca))) (lR:K.lookup zca=some ⟨.type "type",ybn,.cls zpa,zQc⟩) (tz:W.excOut K zca [.type "ValueError",.type "Exception",.type "BaseException",.type "object"] "ValueError.__new__"=true) (su:W.findIn K (.ref zca) "__getattribute__"=some (some (.builtin "BaseException.__getattribute__"))) (rH:W.findIn K (.ref zca) "__getattr__"=some none) (tS:W.mroIn K zca (.type "BaseException")=some true) (rN:W.mroIn K zca (.type "object")=some true) (q9:W.findIn K (.ref zca) "__class__"=some (some (.builtin "object.__class__"))) (tX:W.findIn K (.ref zca) "__init__"=some (some (.ref zAa))) (sr:W.typeIn K (.ref zAa)=some (.type "function")) (rC:K.lookup zAa=some ⟨ybk,ybq,.func (W.fnOf "__init__" "NoGrammar.__init__" (cF iY) (b9 iY) (ak iY) .none ybx ybs ya8 ybo ya5 ybw),ybl⟩) (tu:W.codeIn K ya5 "NoGrammar.__init__"=true) (tj:W.keepIn K (.ref zAa)=true) (rT:W.findIn K (.ref zca) "__setattr__"=some (some (.builtin "object.__setattr__"))) (sL:W.strip zpa.mro=[.type "ValueError",.type "Exception",.type "BaseException",.type "object"]) (j7:zpa.hasDict=true) (tT:zpa.mro.contains (.type "object")=true) (rM:zpa.mro.isEmpty=false) (sP:W.findIn K (.ref zca) "why"=some none) (yx:W.nsIn K mainGlobals "CAPITALS"=some (some (.str "ABCDEFGHIJKLMNOPQRSTUVWXYZ" ybi))) (Du:W.nsIn K mainGlobals "SMALLS"=some (some (.str "abcdefghijklmnopqrstuvwxyz" ybp))) (o0:W.nsIn K mainGlobals "LONGEST_NAME"=some (some (.int 4 ybg))) (Ft:W.nsIn K mainGlobals "Rule"=some (some (.ref yad))) (Er:W.specialIn K (.ref yad) "__getattribute__"=some (some (.builtin "type.__getattribute__"))) (EM:W.readsIn K yad (.type "type")=true) (mG:W.findCls K (.ref yad) (.type "type") "__init__"=some (.val (.ref zFa))) (mj:MK K "__init__" "Rule.__init__" fE zFa) (zm:W.nsIn K mainGlobals "CellRule"=some (some (.ref zea))) (HR:W.plainGet K zea Str.empty=true) (HS:W.hasDictIn K zea=true) (Jt:W.plainOver K zea=true) (Jd:W.findIn K (.ref zea) "__setattr__"=some (some (.builtin "object.__setattr__"))) (Iz:W.findIn K (.ref zea) "__class__"=some (some (.builtin "object.__class__"))) (Hu:W.mroIn K zea (.type "object")=some true) (Hk:W.findIn K (.ref zea) "name"=some none) (JD:W.findIn K (.ref zea) "cost"=some none) (IP:W.findIn K (.ref zea) "part_names"=some none) (HY:W.findIn K (.ref zea) "sign"=some none) (vA:W.makesIn K zea=true) (vK:W.findIn K (.ref zea) "__init__"=some (some (.ref zua))) (jf:MK K "__init__" "CellRule.__init__" fG zua) (vS:W.keepIn K (.ref zea)=true) (JB:W.kitOne K (.ref zea) (.ref yad)=some true) (Hb:W.kitOne K (.ref zea) (.ref zea)=some true) (uz:W.nsIn K mainGlobals "BesideRule"=some (some (.ref zaa))) (Jr:W.plainGet K zaa Str.empty=true) (Ie:W.hasDictIn K zaa=true) (HW:W.plainOver K zaa=true) (Hl:W.findIn K (.ref zaa) "__setattr__"=some (some (.builtin "object.__setattr__"))) (IS:W.findIn K (.ref zaa) "__class__"=some (some (.builtin "object.__class__"))) (IV:W.mroIn K zaa (.type "object")=some true) (Jw:W.findIn K (.ref zaa) "name"=some none) (Hw:W.findIn K (.ref zaa) "cost"=some none) (IW:W.findIn K (.ref zaa) "part_names"=some none) (IU:W.findIn K (.ref zaa) "one"=some none) (Hg:W.findIn K (.ref zaa) "other"=some none) (tf:W.makesIn K zaa=true) (sv:W.findIn K (.ref zaa) "__init__"=some (some (.ref zqa))) (h_:MK K "__init__" "BesideRule.__init__" dW zqa) (ri:W.keepIn K (.ref zaa)=true) (IX:W.kitOne K (.ref zaa) (.ref yad)=some true) (G9:W.kitOne K (.ref zaa) (.ref zaa)=some true) (vJ:W.nsIn K mainGlobals "AboveRule"=some (some (.ref zba))) (Ht:W.plainGet K zba Str.empty=true) (Js:W.hasDictIn K zba=true) (Hn:W.plainOver K zba=true) (HV:W.findIn K (.ref zba) "__setattr__"=some (some (.builtin "object.__setattr__"))) (I_:W.findIn K (.ref zba) "__class__"=some (some (.builtin "object.__class__"))) (I0:W.mroIn K zba (.type "object")=some true) (IK:W.findIn K (.ref zba) "name"=some none) (Hr:W.findIn K (.ref zba) "cost"=some none) (Ju:W.findIn K (.ref zba) "part_names"=some none) (JA:W.findIn K (.ref zba) "one"=some none) (Hj:W.findIn K (.ref zba) "other"=some none) (u9:W.makesIn K zba=true) (uL:W.findIn K (.ref zba) "__init__"=some (some (.ref zsa))) (iy:MK K "__init__" "AboveRule.__init__" eG zsa) (uZ:W.keepIn K (.ref zba)=true) (Jp:W.kitOne K (.ref zba) (.ref yad)=some true) (Hc:W.kitOne K (.ref zba) (.ref zba)=some true) (yQ:W.nsIn K mainGlobals "TurnRule"=some (some (.ref zda))) (IQ:W.plainGet K zda Str.empty=true) (Ho:W.hasDictIn K zda=true) (Iy:W.plainOver K zda=true) (HN:W.findIn K (.ref zda) "__setattr__"=some (some (.builtin "object.__setattr__"))) (Ja:W.findIn K (.ref zda) "__class__"=some (some (.builtin "object.__class__"))) (Jn:W.mroIn K zda (.type "object")=some true) (Ij:W.findIn K (.ref zda) "name"=some none) (HC:W.findIn K (.ref zda) "cost"=some none) (JC:W.findIn K (.ref zda) "part_names"=some none) (Ih:W.findIn K (.ref zda) "part"=some none) (Jm:W.findIn K (.ref zda) "turning"=some none) (wB:W.makesIn K zda=true) (wA:W.findIn K (.ref zda) "__init__"=some (some (.ref zva))) (jg:MK K "__init__" "TurnRule.__init__" fC zva) (wP:W.keepIn K (.ref zda)=true) (Jy:W.kitOne K (.ref zda) (.ref yad)=some true) (G_:W.kitOne K (.ref zda) (.ref zda)=some true) (vc:W.nsIn K mainGlobals "MOST_SIGNS"=some (some (.int 4 ybe))) (uY:W.nsIn K mainGlobals "MOST_RULES"=some (some (.int 24 ybu))) (uT:W.nsIn K mainGlobals "MOST_NAMES"=some (some (.int 8 ybr))) (zb:W.nsIn K mainGlobals "TURNINGS"=some (some (.int 8 ybf))) (HZ:W.kitOne K (.ref zea) (.ref zaa)=some false) (Jg:W.kitOne K (.ref zea) (.ref zba)=some false) (IN:W.kitOne K (.ref zea) (.ref zda)=some false) (Hh:W.kitOne K (.ref zaa) (.ref zea)=some false) (IF:W.kitOne K (.ref zaa) (.ref zba)=some false) (HB:W.kitOne K (.ref zaa) (.ref zda)=some false) (HK:W.kitOne K (.ref zba) (.ref zea)=some false) (IR:W.kitOne K (.ref zba) (.ref zaa)=some false) (Hz:W.kitOne K (.ref zba) (.ref zda)=some false) (Iw:W.kitOne K (.ref zda) (.ref zea)=some false) (IH:W.kitOne K (.ref zda) (.ref zaa)=some false) (ID:W.kitOne K (.ref zda) (.ref zba)=some false) (lO:W.findIn K (.ref zea) "parts"=some (some (.ref zka))) (rO:MK K "parts" "Rule.parts" eR zka) (mB:W.findIn K (.ref zea) "ways"=some (some (.ref zGa))) (mv:MK K "ways" "CellRule.ways" fN zGa) (jO:W.findIn K (.ref zaa) "parts"=some (some (.ref zka))) (j6:W.findIn K (.ref zaa) "ways"=some (some (.ref zza))) (kb:MK K "ways" "BesideRule.ways" dQ zza) (kG:W.findIn K (.ref zba) "parts"=some (some (.ref zka))) (ly:W.findIn K (.ref zba) "ways"=some (some (.ref zCa))) (lP:MK K "ways" "AboveRule.ways" eS zCa) (lv:W.findIn K (.ref zda) "parts"=some (some (.ref zka))) (mH:W.findIn K (.ref zda) "ways"=some (some (.ref zHa))) (mJ:MK K "ways" "TurnRule.ways" fA zHa) (Bu:W.nsIn K mainGlobals "Grammar"=some (some (.ref zfa))) (Iq:W.plainGet K zfa Str.empty=true) (HQ:W.hasDictIn K zfa=true) (JE:W.plainOver K zfa=true) (HX:W.findIn K (.ref zfa) "__setattr__"=some (some (.builtin "object.__setattr__"))) (Jc:W.findIn K (.ref zfa) "__class__"=some (some (.builtin "object.__class__"))) (Hy:W.mroIn K zfa (.type "object")=some true) (HH:W.findIn K (.ref zfa) "signs"=some none) (IC:W.findIn K (.ref zfa) "start"=some none) (Ig:W.findIn K (.ref zfa) "kept"=some none) (IB:W.findIn K (.ref zfa) "numbers"=some none) (yq:W.makesIn K zfa=true) (zr:W.findIn K (.ref zfa) "__init__"=some (some (.ref zwa))) (jy:MK K "__init__" "Grammar.__init__" fL zwa) (yW:W.keepIn K (.ref zfa)=true) (nR:W.findIn K (.ref zfa) "rule"=some (some (.ref zSa))) (oI:MK K "rule" "Grammar.rule" fB zSa) (mI:W.findIn K (.ref zfa) "rules"=some (some (.ref zIa))) (mz:MK K "rules" "Grammar.rules" eU zIa) (mE:W.findIn K (.ref zfa) "names"=some (some (.ref zJa))) (mn:MK K "names" "Grammar.names" eQ zJa) (iJ:W.findIn K (.ref zfa) "numbers_of"=some (some (.ref zta))) (iu:MK K "numbers_of" "Grammar.numbers_of" cM zta) (FQ:W.nsIn K mainGlobals "Cuts"=some (some (.ref yaa))) (Ev:W.plainGet K yaa Str.empty=true) (Ex:W.hasDictIn K yaa=true) (E9:W.plainOver K yaa=true) (EG:W.findIn K (.ref yaa) "__setattr__"=some (some (.builtin "object.__setattr__"))) (EJ:W.findIn K (.ref yaa) "__class__"=some (some (.builtin "object.__class__"))) (D4:W.mroIn K yaa (.type "object")=some true) (nk:W.findIn K (.ref yaa) "picture"=some none) (uW:W.findIn K (.ref yaa) "text"=some none) (ji:W.findIn K (.ref yaa) "beside_texts"=some none) (jV:W.findIn K (.ref yaa) "above_texts"=some none) (Eh:W.makesIn K yaa=true) (D9:W.findIn K (.ref yaa) "__init__"=some (some (.ref yaC))) (mF:MK K "__init__" "Cuts.__init__" fH yaC) (Ek:W.keepIn K (.ref yaa)=true) (jM:W.findIn K (.ref yaa) "turned_text"=some (some (.ref yaH))) (jD:MK K "turned_text" "Cuts.turned_text" dR yaH)
  (z0:W.nsIn K mainGlobals "len"=some none) (z1:W.nsIn K mainGlobals "range"=some none) (z2:W.nsIn K mainGlobals "list"=some none) (z3:W.nsIn K mainGlobals "tuple"=some none) (z4:W.nsIn K mainGlobals "isinstance"=some none) (z5:W.nsIn K mainGlobals "int"=some none) (z6:W.nsIn K mainGlobals "bool"=some none) (z7:W.nsIn K mainGlobals "str"=some none) (z8:W.nsIn K mainGlobals "reversed"=some none) (z9:W.nsIn K mainGlobals "all"=some none) (Il:W.nsIn K mainGlobals "enumerate"=some none) (IY:W.nsIn K mainGlobals "zip"=some none) (IM:W.nsIn K mainGlobals "sorted"=some none) (Hq:W.nsIn K mainGlobals "set"=some none) (Hx:W.nsIn K mainGlobals "dict"=some none) (Hf:W.nsIn K mainGlobals "min"=some none) (HA:W.nsIn K mainGlobals "max"=some none) (He:W.nsIn K mainGlobals "sum"=some none) (Jl:W.nsIn K mainGlobals "ValueError"=some none) :
  ∃fd:FuncData,(∀(s:KJ) (v:Value),BindsTo s fd ⟨[v],[]⟩ [("_law_script",v)])/\∀base:Heap,K.In base->base.Ns mainGlobals mg->aR l.prog w K mg base bB 12 fa fd ["_law_script"] (ro K):=by
 obtain⟨an,oc,od,osl,kV,doc,pm,ann,cdv,ct,hl,hc,hk⟩:=IL;have e:=HU.symm.trans (W.mg_of X G an);cases e;have FL:=cz hl hc hk;have nb:NB mg:=⟨W.mg_none_of X G z0,W.mg_none_of X G z1,W.mg_none_of X G z2,W.mg_none_of X G z3,W.mg_none_of X G z4,W.mg_none_of X G z5,W.mg_none_of X G z6,W.mg_none_of X G z7,W.mg_none_of X G z8,W.mg_none_of X G z9,W.mg_none_of X G Il,W.mg_none_of X G IY,W.mg_none_of X G IM,W.mg_none_of X G Hq,W.mg_none_of X G Hx,W.mg_none_of X G Hf,W.mg_none_of X G HA,W.mg_none_of X G He,W.mg_none_of X G Jl⟩;refine⟨W.fnOf "law" "law" (cF pV) (b9 pV) (ak pV) .none kV doc pm ann cdv ct,λs v=>.of_eq rfl,λbase _ _=>?_⟩;have zoa:=W.mg_of X G Db;have xc_NoRule:yh K zga [.type "ValueError",.type "Exception",.type "BaseException",.type "object"] "ValueError.__new__":=⟨u4⟩;have zna:XR K zga:=⟨_,_,_,_,_,_,_,_,⟨u4⟩,PySem.F.excBase_ValueError,rfl,PySem.F.excBase_ValueError⟩;have xt_NoRule:W.XTy K zga:=⟨yD,xT,yH,zn,xV,Cl,C8,_,_,_,zX⟩;have yaz:=W.mg_of X G Cn;have xc_NoName:yh K yac [.type "ValueError",.type "Exception",.type "BaseException",.type "object"] "ValueError.__new__":=⟨ux⟩;have yar:XR K yac:=⟨_,_,_,_,_,_,_,_,⟨ux⟩,PySem.F.excBase_ValueError,rfl,PySem.F.excBase_ValueError⟩;have xt_NoName:W.XTy K yac:=⟨ya,zd,yZ,y_,zw,Cl,C8,_,_,_,AE⟩;have zla:=W.mg_of X G vC;have zNc:Av K zca [.type "ValueError",.type "Exception",.type "BaseException",.type "object"] "ValueError.__new__":=⟨tz⟩;have xt_NoGrammar:W.XTy K zca:=⟨su,rH,tS,rN,q9,Cl,C8,_,_,_,lR⟩;have ya1:W.clsIn K zca=some zpa:=by unfold W.clsIn;rw[lR]
 have xh_NoGrammar:W.hasDictIn K zca=true:=by unfold W.hasDictIn;rw[ya1];exact j7
 have ya0:=cz (st:=iY) rC tu tj;have ybt:W.XSt K zca "why":=⟨rT,⟨zpa,ya1,sL,j7,tT,rM⟩,sP⟩;have yba:=ya0.binds (ps:=["self","why"]) λ_ _ _ _ _ _=>bd2 λ_ _=>rfl
 have zja:XI l.prog w K mg base 1 zca "why":=⟨_,_,_,_,_,_,_,_,zAa,_,_,zNc,PySem.F.excBase_ValueError,rfl,PySem.F.excBase_ValueError,tX,sr,zY ya0 ybt,yba⟩;have yat:=W.mg_of X G yx;have yaj:=W.mg_of X G Du;have yax:=W.mg_of X G o0;have ybz:=W.mg_of X G Ft;obtain⟨_,_,_,_,_,_,_,_,_,mlRule___init__,mcRule___init__,zeb,mfRule___init__⟩:=mj;have zfb:=cz (st:=fE) mlRule___init__ mcRule___init__ zeb;have zwc:=zfb.binds (ps:=["self","name","cost","part_names"]) λ_ _ _ _ _ _=>bd4 λ_ _ _ _=>rfl
 have ybh:Be K yad "__init__" zFa:=⟨Er,EM,mG,zeb⟩;have zZa:=W.mg_of X G zm;have zTa:jc K zea:=⟨⟨HR,HS,Jt,Jd⟩,Iz,Cl,C8,Hu⟩;obtain⟨_,_,_,_,_,_,_,_,_,mlCellRule___init__,mcCellRule___init__,zFb,mfCellRule___init__⟩:=jf;have zPa:=cz (st:=fG) mlCellRule___init__ mcCellRule___init__ zFb;have zGb:=zPa.binds (ps:=["self","name","cost","sign"]) λ_ _ _ _ _ _=>bd4 λ_ _ _ _=>rfl
 have zYc:Mk K zea zua:=⟨vA,vK,mfCellRule___init__,vS⟩;have zOc:=W.mg_of X G uz;have zBa:jc K zaa:=⟨⟨Jr,Ie,HW,Hl⟩,IS,Cl,C8,IV⟩;obtain⟨_,_,_,_,_,_,_,_,_,mlBesideRule___init__,mcBesideRule___init__,zvb,mfBesideRule___init__⟩:=h_;have zDa:=cz (st:=dW) mlBesideRule___init__ mcBesideRule___init__ zvb;have zwb:=zDa.binds (ps:=["self","name","cost","one","other"]) λ_ _ _ _ _ _=>bd5 λ_ _ _ _ _=>rfl
 have zGc:Mk K zaa zqa:=⟨tf,sv,mfBesideRule___init__,ri⟩;have zZc:=W.mg_of X G vJ;have zKa:jc K zba:=⟨⟨Ht,Js,Hn,HV⟩,I_,Cl,C8,I0⟩;obtain⟨_,_,_,_,_,_,_,_,_,mlAboveRule___init__,mcAboveRule___init__,zCb,mfAboveRule___init__⟩:=iy;have zLa:=cz (st:=eG) mlAboveRule___init__ mcAboveRule___init__ zCb;have zDb:=zLa.binds (ps:=["self","name","cost","one","other"]) λ_ _ _ _ _ _=>bd5 λ_ _ _ _ _=>rfl
 have zPc:Mk K zba zsa:=⟨u9,uL,mfAboveRule___init__,uZ⟩;have zEa:=W.mg_of X G yQ;have zUa:jc K zda:=⟨⟨IQ,Ho,Iy,HN⟩,Ja,Cl,C8,Jn⟩;obtain⟨_,_,_,_,_,_,_,_,_,mlTurnRule___init__,mcTurnRule___init__,zHb,mfTurnRule___init__⟩:=jg;have zQa:=cz (st:=fC) mlTurnRule___init__ mcTurnRule___init__ zHb;have zIb:=zQa.binds (ps:=["self","name","cost","part","turning"]) λ_ _ _ _ _ _=>bd5 λ_ _ _ _ _=>rfl
 have zad:Mk K zda zva:=⟨wB,wA,mfTurnRule___init__,wP⟩
 let R:RC:=⟨yad,zea,zaa,zba,zda⟩
 have rk:lB K R:=⟨zTa,zBa,zKa,zUa,⟨Hk,JD,IP,HY⟩,⟨Jw,Hw,IW,IU,Hg⟩,⟨IK,Hr,Ju,JA,Hj⟩,⟨Ij,HC,JC,Ih,Jm⟩,JB,IX,Jp,Jy,Hb,G9,Hc,G_⟩;have yaI:=W.mg_of X G vc;have yaY:=W.mg_of X G uY;have yaK:=W.mg_of X G uT;have yak:=W.mg_of X G zb;have rk4:Ao K R:=⟨λi j hi hj=>by rcases fQ hi with rfl | rfl | rfl | rfl<;>rcases fQ hj with rfl | rfl | rfl | rfl;exact Hb;exact HZ;exact Jg;exact IN;exact Hh;exact G9;exact IF;exact HB;exact HK;exact IR;exact Hc;exact Hz;exact Iw;exact IH;exact ID;exact G_⟩;obtain⟨_,_,_,_,_,_,_,_,_,mlRule_parts,mcRule_parts,zxa,mfRule_parts⟩:=rO;have zya:=cz (st:=eR) mlRule_parts mcRule_parts zxa;have zMa:=zya.binds (ps:=["self"]) λ_ _ _ _ _ _=>bd1 λ_=>rfl
 have zYb:ik K zea "parts" zka:=⟨lO,mfRule_parts,zxa⟩;obtain⟨_,_,_,_,_,_,_,_,_,mlCellRule_ways,mcCellRule_ways,zgb,mfCellRule_ways⟩:=mv;have zhb:=cz (st:=fN) mlCellRule_ways mcCellRule_ways zgb;have zxc:=zhb.binds (ps:=["self","cuts"]) λ_ _ _ _ _ _=>bd2 λ_ _=>rfl
 have zhc:ik K zea "ways" zGa:=⟨mB,mfCellRule_ways,zgb⟩;have zJb:ik K zaa "parts" zka:=⟨jO,mfRule_parts,zxa⟩;obtain⟨_,_,_,_,_,_,_,_,_,mlBesideRule_ways,mcBesideRule_ways,zXa,mfBesideRule_ways⟩:=kb;have zYa:=cz (st:=dQ) mlBesideRule_ways mcBesideRule_ways zXa;have zZb:=zYa.binds (ps:=["self","cuts"]) λ_ _ _ _ _ _=>bd2 λ_ _=>rfl
 have zPb:ik K zaa "ways" zza:=⟨j6,mfBesideRule_ways,zXa⟩;have zQb:ik K zba "parts" zka:=⟨kG,mfRule_parts,zxa⟩;obtain⟨_,_,_,_,_,_,_,_,_,mlAboveRule_ways,mcAboveRule_ways,zbb,mfAboveRule_ways⟩:=lP;have zcb:=cz (st:=eS) mlAboveRule_ways mcAboveRule_ways zbb;have zic:=zcb.binds (ps:=["self","cuts"]) λ_ _ _ _ _ _=>bd2 λ_ _=>rfl
 have zac:ik K zba "ways" zCa:=⟨ly,mfAboveRule_ways,zbb⟩;have zbc:ik K zda "parts" zka:=⟨lv,mfRule_parts,zxa⟩;obtain⟨_,_,_,_,_,_,_,_,_,mlTurnRule_ways,mcTurnRule_ways,zib,mfTurnRule_ways⟩:=mJ;have zjb:=cz (st:=fA) mlTurnRule_ways mcTurnRule_ways zib;have zyc:=zjb.binds (ps:=["self","cuts"]) λ_ _ _ _ _ _=>bd2 λ_ _=>rfl
 have zjc:ik K zda "ways" zHa:=⟨mH,mfTurnRule_ways,zib⟩;have zxd:=W.mg_of X G Bu;have zma:jc K zfa:=⟨⟨Iq,HQ,JE,HX⟩,Jc,Cl,C8,Hy⟩;obtain⟨_,_,_,_,_,_,_,_,_,mlGrammar___init__,mcGrammar___init__,zRb,mfGrammar___init__⟩:=jy;have zVa:=cz (st:=fL) mlGrammar___init__ mcGrammar___init__ zRb;have zSb:=zVa.binds (ps:=["self","signs","start","rules"]) λ_ _ _ _ _ _=>bd4 λ_ _ _ _=>rfl
 have zod:Mk K zfa zwa:=⟨yq,zr,mfGrammar___init__,yW⟩;have gk:G7 K zfa:=⟨zma,HH,IC,Ig,IB⟩;obtain⟨_,_,_,_,_,_,_,_,_,mlGrammar_rule,mcGrammar_rule,zxb,mfGrammar_rule⟩:=oI;have zyb:=cz (st:=fB) mlGrammar_rule mcGrammar_rule zxb;have zDc:=zyb.binds (ps:=["self","k"]) λ_ _ _ _ _ _=>bd2 λ_ _=>rfl
 have zzc:ik K zfa "rule" zSa:=⟨nR,mfGrammar_rule,zxb⟩;obtain⟨_,_,_,_,_,_,_,_,_,mlGrammar_rules,mcGrammar_rules,zkb,mfGrammar_rules⟩:=mz;have zlb:=cz (st:=eU) mlGrammar_rules mcGrammar_rules zkb;have zAc:=zlb.binds (ps:=["self"]) λ_ _ _ _ _ _=>bd1 λ_=>rfl
 have zkc:ik K zfa "rules" zIa:=⟨mI,mfGrammar_rules,zkb⟩;obtain⟨_,_,_,_,_,_,_,_,_,mlGrammar_names,mcGrammar_names,zmb,mfGrammar_names⟩:=mn;have znb:=cz (st:=eQ) mlGrammar_names mcGrammar_names zmb;have zBc:=znb.binds (ps:=["self"]) λ_ _ _ _ _ _=>bd1 λ_=>rfl
 have zlc:ik K zfa "names" zJa:=⟨mE,mfGrammar_names,zmb⟩;obtain⟨_,_,_,_,_,_,_,_,_,mlGrammar_numbers_of,mcGrammar_numbers_of,zNa,mfGrammar_numbers_of⟩:=iu;have zOa:=cz (st:=cM) mlGrammar_numbers_of mcGrammar_numbers_of zNa;have zEb:=zOa.binds (ps:=["self","name"]) λ_ _ _ _ _ _=>bd2 λ_ _=>rfl
 have zzb:ik K zfa "numbers_of" zta:=⟨iJ,mfGrammar_numbers_of,zNa⟩;have ybb:=W.mg_of X G FQ;have yaf:jc K yaa:=⟨⟨Ev,Ex,E9,EG⟩,EJ,Cl,C8,D4⟩;obtain⟨_,_,_,_,_,_,_,_,_,mlCuts___init__,mcCuts___init__,mkCuts___init__,mfCuts___init__⟩:=mF;have ya4:=cz (st:=fH) mlCuts___init__ mcCuts___init__ mkCuts___init__;have ybd:=ya4.binds (ps:=["self","picture"]) λ_ _ _ _ _ _=>bd2 λ_ _=>rfl
 have yby:Mk K yaa yaC:=⟨Eh,D9,mfCuts___init__,Ek⟩;obtain⟨_,_,_,_,_,_,_,_,_,mlCuts_turned_text,mcCuts_turned_text,mkCuts_turned_text,mfCuts_turned_text⟩:=jD;have ya2:=cz (st:=dR) mlCuts_turned_text mcCuts_turned_text mkCuts_turned_text;have ybc:=ya2.binds (ps:=["self","t"]) λ_ _ _ _ _ _=>bd2 λ_ _=>rfl
 have ya7:ik K yaa "turned_text" yaH:=⟨jM,mfCuts_turned_text,mkCuts_turned_text⟩;have nc:DS K yaa:=⟨nk,uW,ji,jV⟩;have yae:=a1.cal (P:=l.prog) (w:=w) (base:=base) X G (λ_ F m k b=>wC F nb) (λ_ _ _ _ _ _=>bd2 λ_ _=>rfl);have yah:=a2.cal (P:=l.prog) (w:=w) (base:=base) X G (λ_ F m k b=>vW F nb yax yat yae) (λ_ _ _ _ _ _=>bd1 λ_=>rfl);have zha:yz l.prog w K mg base (dz l.prog w) 3 "Rule" "__init__" ["self","name","cost","part_names"] (c_ K zga):=⟨_,_,_,rL zfb nb zoa zna yah,ybz,ybh,zwc⟩;have zob:lI l.prog w K mg base (dz l.prog w) 4 "CellRule" zea ["self","name","cost","sign"] (gU K zga):=⟨_,_,tP zPa nb yaj zoa zna yae zha,zZa,zYc,zGb⟩;have zWa:lI l.prog w K mg base (dz l.prog w) 4 "BesideRule" zaa ["self","name","cost","one","other"] (cZ K zga):=⟨_,_,nG zDa nb zha,zOc,zGc,zwb⟩;have zab:lI l.prog w K mg base (dz l.prog w) 4 "AboveRule" zba ["self","name","cost","one","other"] (cZ K zga):=⟨_,_,pq zLa nb zha,zZc,zPc,zDb⟩;have zpb:lI l.prog w K mg base (dz l.prog w) 4 "TurnRule" zda ["self","name","cost","part","turning"] (gR K zga):=⟨_,_,tQ zQa nb zoa zna zha,zEa,zad,zIb⟩;have yao:v6 l.prog w K mg base bB 1 "parts" (nj K R):=DL ⟨_,_,_,dS zya nb,zTa.cl,zYb,zMa⟩ ⟨_,_,_,dS zya nb,zBa.cl,zJb,zMa⟩ ⟨_,_,_,dS zya nb,zKa.cl,zQb,zMa⟩ ⟨_,_,_,dS zya nb,zUa.cl,zbc,zMa⟩;have yaD:=a3.cal (P:=l.prog) (w:=w) (base:=base) X G (λ_ F m k b=>tV F nb yaI yaj yae) (λ_ _ _ _ _ _=>bd1 λ_=>rfl);have yaM:=a4.cal (P:=l.prog) (w:=w) (base:=base) X G (λ_ F m k b=>kX F nb rk rk4 yaY zZa zla zja yaD yah) (λ_ _ _ _ _ _=>bd3 λ_ _ _=>rfl);have yaA:=a5.cal (P:=l.prog) (w:=w) (base:=base) X G (λ_ F m k b=>jW F nb rk yao) (λ_ _ _ _ _ _=>bd2 λ_ _=>rfl);have zAb:lI l.prog w K mg base (dz l.prog w) 4 "Grammar" zfa ["self","signs","start","rules"] (gN K R zca):=⟨_,_,rA zVa nb yaK zla zja yaM yaA,zxd,zod,zSb⟩;have yag:ig l.prog w K mg base bB 1 zfa "rule" ["self","k"] (eO R zfa):=⟨_,_,rZ zyb nb zma.cl gk.na,zma.cl,zzc,zDc⟩;have yam:ig l.prog w K mg base bB 1 zfa "rules" ["self"] (fU R zfa):=⟨_,_,pN zlb nb zma.cl gk.na,zma.cl,zkc,zAc⟩;have yau:ig l.prog w K mg base bB 1 zfa "names" ["self"] (fW R zfa):=⟨_,_,oW znb nb zma.cl gk.na,zma.cl,zlc,zBc⟩;have yaO:ig l.prog w K mg base (dz l.prog w) 1 zfa "numbers_of" ["self","name"] (du R zfa yac):=⟨_,_,jF zOa nb zma.cl gk.na yaz yar,zma.cl,zzb,zEb⟩;have yas:=a6.cal (P:=l.prog) (w:=w) (base:=base) X G (λ_ F m k b=>za F nb) (λ_ _ _ _ _ _=>bd1 λ_=>rfl);have yap:=a7.cal (P:=l.prog) (w:=w) (base:=base) X G (λ_ F m k b=>yy F nb) (λ_ _ _ _ _ _=>bd2 λ_ _=>rfl);have yaG:=a8.cal (P:=l.prog) (w:=w) (base:=base) X G (λ_ F m k b=>ww F nb yap) (λ_ _ _ _ _ _=>bd1 λ_=>rfl);have zra:=a9.cal (P:=l.prog) (w:=w) (base:=base) X G (λ_ F m k b=>yT F nb yas yaG) (λ_ _ _ _ _ _=>bd2 λ_ _=>rfl);have yaB:=Jq.cal (P:=l.prog) (w:=w) (base:=base) X G (λ_ F m k b=>zT F) (λ_ _ _ _ _ _=>bd2 λ_ _=>rfl);have yaV:=JF.cal (P:=l.prog) (w:=w) (base:=base) X G (λ_ F m k b=>CJ F) (λ_ _ _ _ _ _=>bd1 λ_=>rfl);have yab:=Jz.cal (P:=l.prog) (w:=w) (base:=base) X G (λ_ F m k b=>Ad F) (λ_ _ _ _ _ _=>bd1 λ_=>rfl);have yaS:=Ik.cal (P:=l.prog) (w:=w) (base:=base) X G (λ_ F m k b=>pC F nb) (λ_ _ _ _ _ _=>bd2 λ_ _=>rfl);have yay:=Jj.cal (P:=l.prog) (w:=w) (base:=base) X G (λ_ F m k b=>v7 F nb) (λ_ _ _ _ _ _=>bd2 λ_ _=>rfl);have yaN:=Jo.cal (P:=l.prog) (w:=w) (base:=base) X G (λ_ F m k b=>jP F nb) (λ_ _ _ _ _ _=>bd1 λ_=>rfl);have yaJ:=Hm.cal (P:=l.prog) (w:=w) (base:=base) X G (λ_ F m k b=>wE F nb yak yaS yay zra yab yaN) (λ_ _ _ _ _ _=>bd1 λ_=>rfl);have yaU:=HG.cal (P:=l.prog) (w:=w) (base:=base) X G (λ_ F m k b=>yP F nb) (λ_ _ _ _ _ _=>bd3 λ_ _ _=>rfl);have yan:=IA.cal (P:=l.prog) (w:=w) (base:=base) X G (λ_ F m k b=>mw F nb yaU yab) (λ_ _ _ _ _ _=>bd3 λ_ _ _=>rfl);have yaq:lI l.prog w K mg base bB 3 "Cuts" yaa ["self","picture"] (gD K):=⟨_,_,rh ya4 nb yab yan,ybb,yby,ybd⟩;have zRa:ig l.prog w K mg base bB 4 yaa "turned_text" ["self","t"] (fe yaa):=⟨_,_,n9 ya2 nb yaf.cl nc zra yab,yaf.cl,ya7,ybc⟩;have yaF:v6 l.prog w K mg base bB 5 "ways" (nY R yaa):=DL ⟨_,_,_,(tD zhb yaf.cl nc zTa.cl rk.a0.2.2.2).mono nofun,zTa.cl,zhc,zxc⟩ ⟨_,_,_,(oM zYa yaf.cl nc zBa.cl ⟨rk.a1.2.2.2.1,rk.a1.2.2.2.2⟩).mono nofun,zBa.cl,zPb,zZb⟩ ⟨_,_,_,(pM zcb yaf.cl nc zKa.cl ⟨rk.a2.2.2.2.1,rk.a2.2.2.2.2⟩).mono nofun,zKa.cl,zac,zic⟩ ⟨_,_,_,rV zjb yaf zUa.cl ⟨rk.a3.2.2.2.1,rk.a3.2.2.2.2⟩ zRa yaV,zUa.cl,zjc,zyc⟩;have yaP:=HE.cal (P:=l.prog) (w:=w) (base:=base) X G (λ_ F m k b=>vP F nb rk) (λ_ _ _ _ _ _=>bd3 λ_ _ _=>rfl);have yaX:=HJ.cal (P:=l.prog) (w:=w) (base:=base) X G (λ_ F m k b=>yf F nb yag yaF yaP) (λ_ _ _ _ _ _=>bd4 λ_ _ _ _=>rfl);have yal:=Ir.cal (P:=l.prog) (w:=w) (base:=base) X G (λ_ F m k b=>B1 F nb) (λ_ _ _ _ _ _=>bd3 λ_ _ _=>rfl);have yaT:=Ix.cal (P:=l.prog) (w:=w) (base:=base) X G (λ_ F m k b=>my F nb rk yaf.cl nc yag yaX yal) (λ_ _ _ _ _ _=>bd4 λ_ _ _ _=>rfl);have yaE:=HL.cal (P:=l.prog) (w:=w) (base:=base) X G (λ_ F m k b=>pK F nb rk yaB yal) (λ_ _ _ _ _ _=>bd4 λ_ _ _ _=>rfl);have yaw:=Jb.cal (P:=l.prog) (w:=w) (base:=base) X G (λ_ F m k b=>ki F nb rk rk4 yaf nc yak zEa yam yau yaq zra yaT yaE) (λ_ _ _ _ _ _=>bd3 λ_ _ _=>rfl);have yaQ:=HP.cal (P:=l.prog) (w:=w) (base:=base) X G (λ_ F m k b=>o8 F nb yaJ yab yaw) (λ_ _ _ _ _ _=>bd4 λ_ _ _ _=>rfl);have yai:=Jh.cal (P:=l.prog) (w:=w) (base:=base) X G (λ_ F m k b=>uo F nb yaQ) (λ_ _ _ _ _ _=>bd2 λ_ _=>rfl);have yaR:=Jf.cal (P:=l.prog) (w:=w) (base:=base) X G (λ_ F m k b=>oX F nb zma.cl gk.na yaO) (λ_ _ _ _ _ _=>bd2 λ_ _=>rfl);have yav:=II.cald (P:=l.prog) (w:=w) (base:=base) X G (λ_ _ F=>pp F nb yaR yai yab) λ_ _ _ _ _ _ _ us hl=>match us,hl with | [_,_],_=>⟨_,rfl,rfl⟩
 have zia:=Hs.cal (P:=l.prog) (w:=w) (base:=base) X G (λ_ F m k b=>yc F nb) (λ_ _ _ _ _ _=>bd2 λ_ _=>rfl);have zKb:=I9.cal (P:=l.prog) (w:=w) (base:=base) X G (λ_ F m k b=>wc F nb) (λ_ _ _ _ _ _=>bd1 λ_=>rfl);have zLb:=IJ.cal (P:=l.prog) (w:=w) (base:=base) X G (λ_ F m k b=>vU F nb) (λ_ _ _ _ _ _=>bd2 λ_ _=>rfl);have zMb:=HF.cal (P:=l.prog) (w:=w) (base:=base) X G (λ_ F m k b=>wu F nb) (λ_ _ _ _ _ _=>bd2 λ_ _=>rfl);have zrb:=Iu.cal (P:=l.prog) (w:=w) (base:=base) X G (λ_ F m k b=>qS F nb rk gk zob zWa zab zpb zAb) (λ_ _ _ _ _ _=>bd3 λ_ _ _=>rfl);have zdc:=Je.cal (P:=l.prog) (w:=w) (base:=base) X G (λ_ F m k b=>yl F nb) (λ_ _ _ _ _ _=>bd1 λ_=>rfl);have zBb:=Ji.cal (P:=l.prog) (w:=w) (base:=base) X G (λ_ F m k b=>vh F nb) (λ_ _ _ _ _ _=>bd4 λ_ _ _ _=>rfl);have zqb:=Hv.cal (P:=l.prog) (w:=w) (base:=base) X G (λ_ F m k b=>q_ F nb zia) (λ_ _ _ _ _ _=>bd2 λ_ _=>rfl);have zTb:=IT.cal (P:=l.prog) (w:=w) (base:=base) X G (λ_ F m k b=>AA F nb zBb) (λ_ _ _ _ _ _=>bd4 λ_ _ _ _=>rfl);exact E2 FL nb zia zKb zLb zMb zqb zrb zdc zTb yav yai
theorem walk{l:W.OpenLaw}{q:KP}{loose:KQ}{XP:(Str->Option Value)->Heap->Prop}{YP:World->Heap->Prop}{d:DefRec}{K:Params->W.Frag}(hn:l.most=some 63)(hdf:d.params.defaults=[])
  (hY:∀(w:KS) (h:Heap),YP w h->(K w.params).In h)
  (F:∀(w:KS) (mg:KN) (fa:Addr) (h:Heap),(K w.params).In h->h.Ns mainGlobals mg->mg d.name=some (.ref fa) ->
   ∃fd:FuncData,(∀(s:KJ) (u:Value),BindsTo s fd ⟨[u],[]⟩ [("_law_script",u)])/\∀base:Heap,(K w.params).In base->base.Ns mainGlobals mg->aR l.prog w (K w.params) mg base bB 12 fa fd ["_law_script"] (ro (K w.params))) :
  W.WalkO q loose XP YP l.row.toRowW d [] (λf vs=>PySem.call f vs):=
 L2.walk_of (n:=63) (k:=12) (x:="_law_script") (CX:=λ_=>bB) (sp:=λw=>ro (K w.params)) hn nofun hdf ⟨rfl,nofun,nofun⟩ hY F (λ_ _ a ns hl _ hS=>⟨a,ns,rfl,hS,λ_=>rfl⟩) λ_ _ _ _ _ z=>z
end Q24
open PySem PySem.W PyProof.Rows
local macro_rules | `(tactic| walk_at "kk")=>`(tactic| first | (refine' Q24.fk_mk ?p ?q ?r ?s;(case p=>k_is);(case q=>k_is);(case r=>k_is);(case s=>k_is)) | (refine' Q24.fkd_mk ?p ?q ?r ?s ?t ?u;(case p=>k_is);(case q=>k_is);(case r=>k_is);(case s=>k_is);(case t=>k_is);(case u=>rfl)) | (refine' Q24.mk_mk ?p ?q ?r ?s;(case p=>k_is);(case q=>k_is);(case r=>k_is);(case s=>k_is)) | k_is | kernel_rfl | rfl | decide +kernel)
set_option maxRecDepth 100000 in
set_option maxHeartbeats 0 in
theorem PySem.Challenge.cw_quiltlaw_k24_costs_of_sheets_holds : PySem.Challenge.rw_quiltlaw_k24_costs_of_sheets.Holds := by
 w_on;o_law;k_head;(case hw=>w_witness2)
 k_fill
 refine Q24.walk (l:=PySem.Challenge.rw_quiltlaw_k24_costs_of_sheets) rfl rfl (λw h Y=>PySem.W.kIn_of Y) ?F
 case F=>
  intro w mg fa h KX G hmg
  refine' Q24.all_mk KX G hmg ?_ ?_ ?_ ?_ ?_ ?_ ?_ ?_ ?_ ?_ ?_ ?_ ?_ ?_ ?_ ?_ ?_ ?_ ?_ ?_ ?_ ?_ ?_ ?_ ?_ ?_ ?_ ?_ ?_ ?_ ?_ ?_ ?_ ?_ ?_ ?_ ?_ ?_ ?_ ?_ ?_ ?_ ?_ ?_ ?_ ?_ ?_ ?_ ?_ ?_ ?_ ?_ ?_ ?_ ?_ ?_ ?_ ?_ ?_ ?_ ?_ ?_ ?_ ?_ ?_ ?_ ?_ ?_ ?_ ?_ ?_ ?_ ?_ ?_ ?_ ?_ ?_ ?_ ?_ ?_ ?_ ?_ ?_ ?_ ?_ ?_ ?_ ?_ ?_ ?_ ?_ ?_ ?_ ?_ ?_ ?_ ?_ ?_ ?_ ?_ ?_ ?_ ?_ ?_ ?_ ?_ ?_ ?_ ?_ ?_ ?_ ?_ ?_ ?_ ?_ ?_ ?_ ?_ ?_ ?_ ?_ ?_ ?_ ?_ ?_ ?_ ?_ ?_ ?_ ?_ ?_ ?_ ?_ ?_ ?_ ?_ ?_ ?_ ?_ ?_ ?_ ?_ ?_ ?_ ?_ ?_ ?_ ?_ ?_ ?_ ?_ ?_ ?_ ?_ ?_ ?_ ?_ ?_ ?_ ?_ ?_ ?_ ?_ ?_ ?_ ?_ ?_ ?_ ?_ ?_ ?_ ?_ ?_ ?_ ?_ ?_ ?_ ?_ ?_ ?_ ?_ ?_ ?_ ?_ ?_ ?_ ?_ ?_ ?_ ?_ ?_ ?_ ?_ ?_ ?_ ?_ ?_ ?_ ?_ ?_ ?_ ?_ ?_ ?_ ?_ ?_ ?_ ?_ ?_ ?_ ?_ ?_ ?_ ?_ ?_ ?_ ?_ ?_ ?_ ?_ ?_ ?_ ?_ ?_ ?_ ?_ ?_ ?_ ?_ ?_ ?_ ?_ ?_ ?_ ?_ ?_ ?_ ?_ ?_ ?_ ?_ ?_
  all_goals (try walk_at "kk")
