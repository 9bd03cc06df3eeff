import PyProof.Rows.All
import Wide.All
import OpenK.AllK
import Wide.FinOn
import PyProof.Rows.SeqMore
import HandS.ForMost
import HandS.Exc
import HandS.TryOnly
import HandS.ExcOwn
import HandS.WordsExc
import HandS.IsInst
import HandS.Wide
import HandS.TupAny
import HandS.Flow
import HandS.FStr
import HandS.NoneIn
import HandS.SortKw
import HandS.Codes
import HandS.Steps
import HandS.DictComp
import HandS.WordsDict
import HandS.More
import HandS.Walk
import HandS.Star
import HandS.Deep
import HandS.ExcIs
import HandS.Zip
import HandS.GenList
import HandS.GenCall
import HandS.TryMany
import KE.SortData
import PySem.Challenge.RW_legion_k21_whole_more_threads_can_do_mor
set_option Elab.async false
set_option linter.all false
set_option maxRecDepth 100000
namespace My
open PySem PySem.Spec PyProof.Rows L2
/-! ### lists that are read only, joined -/
def rCatS (K : PySem.W.Frag) : R2 := fun x y H Q => ∃ l b xs zs, x = .ref l ∧ y = .ref b ∧ SqL K H l xs ∧ SqL K H b zs ∧ xs.length + zs.length ≤ sizeLine ∧ ∀ p, H p = none → Q (.ref p) (upd H p (.lst (xs ++ zs)))
theorem op_catS {X : Cx} : OpR X (binaryOp .Add) (rCatS X.K) := by
  intro pins s σ H x y v u Q I rx ry h
  obtain ⟨l, b, xs, zs, rfl, rfl, hH, hB, hz, q⟩ := h
  cases rx
  cases ry
  obtain ⟨its, r, pl, z⟩ := I.list hH
  obtain ⟨its2, r2, pl2, z2⟩ := I.list hB
  have hl := r.length
  have hl2 := r2.length
  obtain ⟨⟨cls, dd, data, sl⟩, ho, hc, n, hd⟩ := pl.isList
  obtain ⟨⟨cls2, dd2, data2, sl2⟩, ho2, hc2, n2, hd2⟩ := pl2.isList
  simp only at hc hd hc2 hd2
  subst hc hd hc2 hd2
  have ea : its.toArray ++ its2.toArray = (its ++ its2).toArray := by simp
  refine concat_meets ⟨_, ho, rfl⟩ ⟨_, ho2, rfl⟩ noFill_list_add seq_list_add PySem.F.slot_list_add PySem.F.entry_list_add (PySem.F.args_list_add_2 _ _) (list_addW l b its.toArray its2.toArray n n2 dd dd2 sl sl2 (by rw [List.size_toArray, List.size_toArray]; omega)) ⟨ho, ho2, ?_⟩
  rw [ea]
  exact ⟨.ref _, _, I.lnew (t' := s.toks) (r.append r2) (by rw [List.length_append]; omega), rfl, q _ I.fresh⟩
/-- is True, is False, of anything -/
def rIsBl : R2 := fun x y H Q => ∃ b, y = .bl b ∧ Q (.bl (decide (x = .bl b))) H
theorem op_isBv {X : Cx} : OpR X (compareOp .Is) rIsBl := by
  intro pins s σ H x y v u Q I rx ry h
  obtain ⟨b, rfl, q⟩ := h
  cases (show u = Value.bool b from ry)
  have go : ∀ v : Value, plainIs v (.bool b) = true → (v == Value.bool b) = decide (x = .bl b) → wpAny (model X.prog X.w) X.A (compareOp .Is v (.bool b)) (EP X pins σ Q) X.xe s := fun v hp e =>
    wpAny_is_plain hp (by rw [e]; exact ⟨.bl _, H, I, rfl, q⟩)
  cases x with
  | bl c =>
    cases (show v = Value.bool c from rx)
    refine go _ rfl ?_
    cases b <;> cases c <;> rfl
  | non => cases (show v = Value.none from rx); exact go _ rfl rfl
  | int i => obtain ⟨t, rfl⟩ := (show ∃ t, v = Value.int i t from rx); exact go _ rfl rfl
  | str i => obtain ⟨t, rfl⟩ := (show ∃ t, v = Value.str i t from rx); exact go _ rfl rfl
  | byt i => obtain ⟨t, rfl⟩ := (show ∃ t, v = Value.bytes i t from rx); exact go _ rfl rfl
  | flt i => obtain ⟨t, rfl⟩ := (show ∃ t, v = Value.float i t from rx); exact go _ rfl rfl
  | ref a => cases (show v = Value.ref a from rx); exact go _ rfl rfl
  | ty a => cases (show v = Value.type a from rx); exact go _ rfl rfl
/-! ### rules with the written part named -/
section
variable {X : Cx} (K : PySem.W.Frag)
theorem ixL (h : X.K = K := by rfl) : IxR X (rIxL K) := h ▸ ix_list
theorem ixT (h : X.K = K := by rfl) : IxR X (rIxT K) := h ▸ ix_tup
theorem ixQ (h : X.K = K := by rfl) : IxR X (rIx K) := h ▸ ix_seq
theorem opIn (h : X.K = K := by rfl) : OpR X (compareOp .In) (rIn K false) := h ▸ op_in_seq
theorem opNotIn (h : X.K = K := by rfl) : OpR X (compareOp .NotIn) (rIn K true) := h ▸ op_notIn_seq
theorem opCat (h : X.K = K := by rfl) : OpR X (binaryOp .Add) (rCatS K) := h ▸ op_catS
theorem opCatT (h : X.K = K := by rfl) : OpR X (binaryOp .Add) (rCatA K) := h ▸ op_catA
theorem opEqD (hu : X.A.units + 64 < cLine) (h : X.K = K := by rfl) : OpR X (compareOp .Eq) (rEqD K) := h ▸ op_eqD hu
theorem opNeD (hu : X.A.units + 64 < cLine) (h : X.K = K := by rfl) : OpR X (compareOp .NotEq) (rNeD K) := h ▸ op_neD hu
theorem slL (h : X.K = K := by rfl) : SlR X (rSlL K) := h ▸ sl_list
theorem slT (h : X.K = K := by rfl) : SlR X (rSlT K) := h ▸ sl_tup
def rLenQ (K : PySem.W.Frag) : List V → Hp → VK → Prop := fun xs H Q => ∃ p ys, xs = [.ref p] ∧ (SqL K H p ys ∨ SqT K H p ys) ∧ Q (.int ys.length) H
theorem cLen (h : X.K = K := by rfl) : CallR X (.builtin "len") (rLenQ K) := h ▸ call_len_seq
def rListQ (K : PySem.W.Frag) : List V → Hp → VK → Prop := fun xs H Q => ∃ p ys, xs = [.ref p] ∧ (SqL K H p ys ∨ SqT K H p ys) ∧ ∀ l, H l = none → Q (.ref l) (upd H l (.lst ys))
theorem cList (h : X.K = K := by rfl) : CallR X (.type "list") (rListQ K) := h ▸ call_list_of
theorem cSum (hc : X.calm = true) (h : X.K = K := by rfl) : CallR X (.builtin "sum") (rSum K) := h ▸ cr_sum hc
theorem cAll (hc : X.calm = true) (h : X.K = K := by rfl) : CallR X (.builtin "all") (rAll K) := h ▸ cr_all hc
theorem cAny (hc : X.calm = true) (h : X.K = K := by rfl) : CallR X (.builtin "any") (rAny K) := h ▸ cr_any hc
theorem cIsi (h : X.K = K := by rfl) : CallR X (.builtin "isinstance") (rIsi K) := h ▸ call_isi
theorem peBm {T name id : String} {r : V → List V → Hp → VK → Prop} {to : TE} {t : TA} {o e : Expr} {es : List Expr} {apos cpos : Pos} (pa : PlainAttrs T) (slot : Slot T name id) (hty : typeOf (.builtin id) = pure (.type "method_descriptor")) (hm : MtR X id r) (ho : PE X o to) (ha : PA X (e :: es) t) (h : X.K = K := by rfl)
    (hbase : attributeBase o name X.env (eval o X.env) = eval o X.env := by rfl)
    (hfew : ((backTo cpos (starEach (e :: es) X.env)).all (fun x => !x.1) && (backToKw cpos (keywordEach [] X.env)).all (fun x => x.1.isSome)
      && decide ((e :: es).length + ([] : List Keyword).length + (if ([] : List Keyword).isEmpty then 0 else 1) < 30)) = true := by rfl)
    (hline : (apos.endLine == cpos.line) = true := by rfl) (hs : starEach (e :: es) X.env = (false, eval e X.env) :: starEach es X.env := by rfl) (hplain : (backTo cpos (starEach es X.env)).any (·.1) = false := by rfl) :
    PE X (.Call (.Attribute o name apos) (e :: es) [] cpos) (tBM K T r to t) := h ▸ pe_bm pa slot hty hm ho ha hbase hfew hline hs hplain
def tTruK (K : PySem.W.Frag) (ta : TE) : TT := fun σ H Q => ta σ H fun x H' => ∃ k, TruV K x H' k ∧ Q k H'
theorem ptTru {a : Expr} {ta : TE} (ha : PE X a ta) (he : ∀ whole, isTrue a X.env whole = (do let v ← whole; standAt a.pos; holding [v] (truthy v))) (h : X.K = K := by rfl) : PT X a (tTruK K ta) := h ▸ pt_truth ha he
theorem piL {tg l : Expr} {tl : TE} (hl : PE X l tl) (h : X.K = K := by rfl) : PI X tg l (iList K tl) := h ▸ pi_list hl
theorem piT {tg l : Expr} {tl : TE} (hl : PE X l tl) (h : X.K = K := by rfl) : PI X tg l (iTup K tl) := h ▸ pi_tup hl
end
/-! ### a def that is known -/
structure Fd (P : Program) (w : World) (K : PySem.W.Frag) (mg : Str → Option Value) (base : Heap) (x : Str) (ps : List Str) (k : Nat) (sp : Sp) : Prop where
  ex : ∃ (f : Addr) (fd : FuncData), FnOk P w K mg base CX0 k f fd ps sp ∧ mg x = some (.ref f) ∧ PySem.W.keepIn K (.ref f) = true ∧ Binds K fd ps []
theorem pe_fn {X : Cx} {x : Str} {ps : List Str} {k : Nat} {sp : Sp} {e : Expr} {es : List Expr} {t : TA} {p pos : Pos} (F : Fd X.prog X.w X.K X.mg X.base x ps k sp) (hr : Room k X.A) (hg : Gl X x) (ha : PA X (e :: es) t)
    (hdb : (x == ("__debug__" : Str)) = false := by decide) (he : starEach (e :: es) X.env = (false, eval e X.env) :: starEach es X.env := by rfl) (hpl : (backTo pos (starEach es X.env)).any (·.1) = false := by rfl) :
    PE X (.Call (.Name x p) (e :: es) [] pos) (tCall sp [] E0 t) := by
  obtain ⟨f, fd, G, m, kp, b⟩ := F.ex
  exact pe_call G hr hg m kp b .nil pass0 ha hdb he hpl
/-- the built-ins stand as they were -/
structure Bt (mg : Str → Option Value) : Prop where
  len : mg "len" = none
  int : mg "int" = none
  abs : mg "abs" = none
  range : mg "range" = none
  min : mg "min" = none
  str : mg "str" = none
  isinstance : mg "isinstance" = none
  bool : mg "bool" = none
  sum : mg "sum" = none
  list : mg "list" = none
  tuple : mg "tuple" = none
  repr : mg "repr" = none
  sorted : mg "sorted" = none
  enumerate : mg "enumerate" = none
  zip : mg "zip" = none
  all : mg "all" = none
  dict : mg "dict" = none
  max : mg "max" = none
  set : mg "set" = none
  ValueError : mg "ValueError" = none
/-! ### heaps -/
theorem same_new {H : Hp} {p : Addr} {o : HO} (h : H p = none) : Same H (upd H p o) := fun b x e => by
  rw [upd_ne (ne_of_none e h)]
  exact e
/-- an object that H does not know may change -/
theorem Same.mut {H H' : Hp} {p : Addr} {o : HO} (e : Same H H') (h : H p = none) : Same H (upd H' p o) := fun a u ha => by
  rw [upd_ne (ne_of_none ha h)]
  exact e a u ha
theorem sq {K : PySem.W.Frag} {H : Hp} {a : Addr} {xs : List V} (h : H a = some (.lst xs)) : SqL K H a xs := .inl (.inl h)
theorem st {K : PySem.W.Frag} {H : Hp} {a : Addr} {xs : List V} (h : H a = some (.tup xs)) : SqT K H a xs := .inl (.inl h)
theorem sz {n : Nat} (h : n ≤ 100000) : n ≤ sizeLine := Nat.le_trans h (by decide)
theorem szl {n : Nat} (h : n < 100000) : n < sizeLine := Nat.lt_of_lt_of_le h (by decide)
theorem Same.seqT {K : PySem.W.Frag} {H H' : Hp} {a : Addr} {xs : List V} (e : Same H H') (h : SqT K H a xs) : SqT K H' a xs := by
  rcases h with (h | ⟨o, h⟩) | h
  · exact .inl (.inl (e _ _ h))
  · exact .inl (.inr ⟨o, e _ _ h⟩)
  · exact .inr h
/-! ### numbers drawn below limits -/
def DOk : List Int → List Int → Prop
  | [], [] => True
  | d :: ds, m :: ms => (0 ≤ d ∧ d < m) ∧ DOk ds ms
  | _, _ => False
theorem DOk.snoc : ∀ {ds ms : List Int} {d m : Int}, DOk ds ms → 0 ≤ d → d < m → DOk (ds ++ [d]) (ms ++ [m])
  | [], [], _, _, _, h0, h1 => ⟨⟨h0, h1⟩, trivial⟩
  | [], _ :: _, _, _, h, _, _ => h.elim
  | _ :: _, [], _, _, h, _, _ => h.elim
  | _ :: _, _ :: _, _, _, h, h0, h1 => ⟨h.1, DOk.snoc h.2 h0 h1⟩
theorem DOk.len : ∀ {ds ms : List Int}, DOk ds ms → ds.length = ms.length
  | [], [], _ => rfl
  | [], _ :: _, h => h.elim
  | _ :: _, [], h => h.elim
  | _ :: _, _ :: _, h => by rw [List.length_cons, List.length_cons, DOk.len h.2]
theorem DOk.at : ∀ {ds ms : List Int} {i : Nat} {m : Int}, DOk ds ms → ms[i]? = some m → ∃ d, ds[i]? = some d ∧ 0 ≤ d ∧ d < m
  | [], [], _, _, _, e => by simp at e
  | [], _ :: _, _, _, h, _ => h.elim
  | _ :: _, [], _, _, h, _ => h.elim
  | d :: _, _ :: _, 0, m, h, e => ⟨d, rfl, h.1.1, by have := Option.some.inj e; rw [← this]; exact h.1.2⟩
  | _ :: ds, _ :: ms, i + 1, m, h, e => DOk.at (ds := ds) (ms := ms) (i := i) h.2 e
theorem DOk.cons {ds ms : List Int} {m : Int} (h : DOk ds (m :: ms)) : ∃ d r, ds = d :: r ∧ 0 ≤ d ∧ d < m ∧ DOk r ms := by
  cases ds with
  | nil => exact h.elim
  | cons d r => exact ⟨d, r, rfl, h.1.1, h.1.2, h.2⟩
theorem DOk.nil {ds : List Int} (h : DOk ds []) : ds = [] := by
  cases ds with
  | nil => rfl
  | cons d r => exact h.elim
theorem get_map {α : Type} {f : α → V} {xs : List α} {i : Nat} {x : α} (h : xs[i]? = some x) : (xs.map f)[i]? = some (f x) := by
  rw [List.getElem?_map, h]; rfl
theorem get_map_inv {α : Type} {f : α → V} {xs : List α} {i : Nat} {v : V} (h : (xs.map f)[i]? = some v) : ∃ x, xs[i]? = some x ∧ v = f x := by
  rw [List.getElem?_map] at h
  cases e : xs[i]? with
  | none => rw [e] at h; cases h
  | some x => rw [e] at h; exact ⟨x, rfl, (Option.some.inj h).symm⟩
theorem fmod_pos {a m : Int} (h : 0 < m) : 0 ≤ a.fmod m ∧ a.fmod m < m := ⟨Int.fmod_nonneg_of_pos a h, Int.fmod_lt_of_pos a h⟩
theorem take_snoc {α : Type} {xs : List α} {i : Nat} {x : α} (h : xs[i]? = some x) : xs.take (i + 1) = xs.take i ++ [x] := by
  rw [List.take_add_one, h]; rfl
end My
namespace My
open PySem PySem.Spec PyProof.Rows L2
def topS (i : Nat) : Stmt := PySem.Challenge.pw_legion_k21_whole_more_threads_can_do_mor.main.body.getD i (.Pass ⟨0, 0, 0, 0⟩)
theorem atI_in {α : Type} {xs : List α} {i : Int} (h0 : 0 ≤ i) (h1 : i < xs.length) : ∃ v, atI xs i = some v ∧ v ∈ xs := by
  obtain ⟨n, rfl⟩ := Int.eq_ofNat_of_zero_le h0
  have hn : n < xs.length := by omega
  exact ⟨xs[n], atI_nat (List.getElem?_eq_getElem hn), List.getElem_mem hn⟩
theorem atI_map {α : Type} {f : α → V} {xs : List α} {i : Int} (h0 : 0 ≤ i) (h1 : i < xs.length) : ∃ v, atI (xs.map f) i = some (f v) ∧ v ∈ xs ∧ xs[i.toNat]? = some v := by
  obtain ⟨n, rfl⟩ := Int.eq_ofNat_of_zero_le h0
  have hn : n < xs.length := by omega
  exact ⟨xs[n], atI_nat (get_map (List.getElem?_eq_getElem hn)), List.getElem_mem hn, List.getElem?_eq_getElem hn⟩
theorem len_app (a b : Str) : (a ++ b).length = a.length + b.length := by
  show (a.cps ++ b.cps).size = a.cps.size + b.cps.size
  exact Array.size_append
theorem len_join0 : ∀ (parts : List Str), (∀ p ∈ parts, p.length = 1) → (Txt.join (Str.ofString "") parts).length = parts.length := by
  intro parts h
  have e : ∀ parts : List Str, (∀ p ∈ parts, p.length = 1) → (TL.joinL [] (parts.map TL.tl)).length = parts.length := by
    intro parts
    induction parts with
    | nil => intro _; rfl
    | cons p r ih =>
      intro h
      have hp : (TL.tl p).length = 1 := by
        have := h p List.mem_cons_self
        rw [← this]
        exact Array.length_toList
      have hr := ih fun q hq => h q (List.mem_cons_of_mem _ hq)
      cases r with
      | nil => show (TL.tl p).length = 1; exact hp
      | cons q r =>
        show (TL.tl p ++ ([] ++ TL.joinL [] ((q :: r).map TL.tl))).length = _
        rw [List.length_append, List.nil_append, hr, hp, List.length_cons (a := p)]
        omega
  have e2 := TL.tl_join (Str.ofString "") parts
  rw [← TL.join_eq] at e2
  have e3 : (Txt.join (Str.ofString "") parts).length = (TL.tl (Txt.join (Str.ofString "") parts)).length := Array.length_toList.symm
  rw [e3, e2, show TL.tl (Str.ofString "") = [] by decide +kernel]
  exact e parts h
theorem len_digits : ∀ k : Nat, k < 60 → ((toString (k : Int) : String) |> fun s => (Str.ofString s).length) ≤ 2 := by
  intro k hk
  have : ∀ k : Fin 60, ((toString ((k : Nat) : Int) : String) |> fun s => (Str.ofString s).length) ≤ 2 := by decide +kernel
  exact this ⟨k, hk⟩
/-! ### tests that leave the heap -/
theorem ansOr {t u : TT} {σ : L2.St} {H : Hp} {a b : Bool} (ha : Ans t σ H a) (hb : Ans u σ H b) : Ans (tOr t u) σ H (a || b) := fun Q q => ha _ (by
  cases a with
  | true => exact iteT q
  | false => exact iteF (hb Q q))
theorem ansAnd {t u : TT} {σ : L2.St} {H : Hp} {a b : Bool} (ha : Ans t σ H a) (hb : Ans u σ H b) : Ans (tAnd t u) σ H (a && b) := fun Q q => ha _ (by
  cases a with
  | true => exact iteT (hb Q q)
  | false => exact iteF q)
theorem ifS {c : TT} {t u : TS} {D : Ends} {σ : L2.St} {H : Hp} {b : Bool} (h : Ans c σ H b) (ht : b = true → t D σ H) (hu : b = false → u D σ H) : tIfS c t u D σ H := h _ (by
  cases b with
  | true => exact iteT (ht rfl)
  | false => exact iteF (hu rfl))
theorem sum_ones : ∀ {ss : List Str}, (∀ s ∈ ss, s.length = 1) → (ss.map (·.length)).sum = ss.length
  | [], _ => rfl
  | s :: r, h => by
    rw [List.map_cons, List.sum_cons, sum_ones fun x hx => h x (List.mem_cons_of_mem _ hx), h s List.mem_cons_self, List.length_cons]
    omega
theorem flat_strs (ss : List Str) : (ss.map V.str).all flatV = true := by
  rw [List.all_eq_true]
  intro v hv
  obtain ⟨s, _, rfl⟩ := List.mem_map.mp hv
  rfl
theorem szc (n : Nat) {xs : List V} (h : xs.length = n := by rfl) (hn : n ≤ 100000 := by decide) : xs.length ≤ sizeLine := by rw [h]; exact sz hn
theorem ansIsi {K : PySem.W.Frag} {te : TE} {σ : L2.St} {H : Hp} {x : V} {T T2 : String} {b : Bool} (hx : ∀ Q : VK, Q x H → te σ H Q) (ty : TyX K H x (.type T)) (hb : kitB T T2 = some b) :
    Ans (tB (tCB (rIsi K) (tCons te (tCons (tC (.ty T2)) tNil)))) σ H b := fun Q q => hx _ ⟨x, _, _, _, b, rfl, .ty T2, ty, kit_ty hb, _, rfl, q⟩
theorem ansTo {t : TT} {σ : L2.St} {H : Hp} {b b' : Bool} (h : Ans t σ H b) (e : b = b') : Ans t σ H b' := e ▸ h
/-- lo <= x <= hi over whole numbers -/
theorem ansChain {ta tb tc : TE} {σ : L2.St} {H : Hp} {i j k : Int} (ha : Val ta σ H (.int i)) (hb : Val tb σ H (.int j)) (hc : Val tc σ H (.int k)) :
    Ans (tTest (tChain (rI0 fun i j => .bl (decide (i ≤ j))) (rI0 fun i j => .bl (decide (i ≤ j))) ta tb tc)) σ H (decide (i ≤ j) && decide (j ≤ k)) := fun Q q =>
  ha _ (hb _ ⟨i, j, rfl, rfl, _, rfl, by
    by_cases h : i ≤ j
    · rw [if_pos (decide_eq_true h)]
      refine hc _ ⟨j, k, rfl, rfl, _, rfl, ?_⟩
      rw [decide_eq_true h, Bool.true_and] at q
      exact q
    · rw [if_neg (by rw [decide_eq_false h]; exact Bool.false_ne_true)]
      rw [decide_eq_false h, Bool.false_and] at q
      exact ⟨_, rfl, q⟩⟩)
theorem ifQ {c : TT} {t u r : TS} {D : Ends} {σ : L2.St} {H : Hp} {b : Bool} (h : Ans c σ H b) (ht : b = true → t { D with nx := r D } σ H) (hu : b = false → u { D with nx := r D } σ H) : tSeq (tIfS c t u) r D σ H := ifS (D := { D with nx := r D }) h ht hu
theorem noQ {c : TT} {t r : TS} {D : Ends} {σ : L2.St} {H : Hp} (h : Ans c σ H false) (q : r D σ H) : tSeq (tIfS c t tNext) r D σ H := ifQ h (fun z => nomatch z) fun _ => q
theorem noS {c : TT} {t : TS} {D : Ends} {σ : L2.St} {H : Hp} (h : Ans c σ H false) (q : D.nx σ H) : tIfS c t tNext D σ H := ifS h (fun z => nomatch z) fun _ => q
theorem ifR {c : TT} {t r : TS} {D : Ends} {σ : L2.St} {H : Hp} {b : Bool} (h : Ans c σ H b) (ht : b = true → t { D with nx := r D } σ H) (hu : b = false → r D σ H) : tSeq (tIfS c t tNext) r D σ H := ifQ h ht hu
theorem cutV_map {α : Type} (f : α → V) (xs : List α) (lo hi : Option Int) : ∃ ys : List α, cutV (xs.map f) lo hi = ys.map f ∧ ys.length ≤ xs.length ∧ ∀ y ∈ ys, y ∈ xs := by
  refine ⟨(xs.drop (HT.sIx (xs.map f).length 0 lo)).take (HT.sIx (xs.map f).length (xs.map f).length hi - HT.sIx (xs.map f).length 0 lo), ?_, ?_, ?_⟩
  · unfold cutV
    rw [List.map_take, List.map_drop]
  · rw [List.length_take, List.length_drop]
    omega
  · intro y hy
    exact List.mem_of_mem_drop (List.mem_of_mem_take hy)
theorem iteFx {c : Bool} {A B : Prop} (h : c = false) (q : B) : if c = true then A else B := by
  subst h
  exact iteF q
theorem iteTx {c : Bool} {A B : Prop} (h : c = true) (q : A) : if c = true then A else B := by
  subst h
  exact iteT q
/-! ### names -/
def lets : Str := Str.ofString "abcdefghijklmnopqrstuvwxyz"
def sgns : Str := Str.ofString "abcdefghijklmnopqrstuvwxyz0123456789"
def resv : List Str := ["share", "lock", "bell", "kind", "any", "local", "skip", "set", "acquire", "release", "rest", "wake", "start", "check", "await", "mark", "if", "else", "loop", "choose", "or", "end", "and", "not"].map Str.ofString
structure NmF (s : Str) : Prop where
  l1 : 1 ≤ s.length
  l20 : s.length ≤ 20
  hd : ∃ c r, s.cps.toList = c :: r ∧ c ∈ lets.cps.toList
  al : ∀ c ∈ s.cps.toList, c ∈ sgns.cps.toList
theorem str_len (s : Str) : s.cps.toList.length = s.length := Array.length_toList
theorem str_app (a b : Str) : (a ++ b).cps.toList = a.cps.toList ++ b.cps.toList := by
  show (a.cps ++ b.cps).toList = _
  exact Array.toList_append
theorem let_sgn {c : Nat} (h : c ∈ lets.cps.toList) : c ∈ sgns.cps.toList := by
  have e : sgns = lets ++ Str.ofString "0123456789" := by decide +kernel
  rw [e, str_app]
  exact List.mem_append_left _ h
theorem nmF_cons {s : Str} {c : Nat} {r : List Nat} (e : s.cps.toList = c :: r) (hc : c ∈ lets.cps.toList) (hr : ∀ x ∈ r, x ∈ sgns.cps.toList) (hl : r.length ≤ 19) : NmF s := by
  have := str_len s
  rw [e, List.length_cons] at this
  refine ⟨by omega, by omega, ⟨c, r, e, hc⟩, fun x hx => ?_⟩
  rw [e] at hx
  rcases List.mem_cons.mp hx with h | h
  · rw [h]; exact let_sgn hc
  · exact hr x h
def nmfB (l : List Nat) : Bool := match l with
  | [] => false
  | c :: r => decide (c ∈ lets.cps.toList) && (r.all fun x => decide (x ∈ sgns.cps.toList)) && decide (r.length ≤ 19)
theorem nmF_of {s : Str} (h : nmfB s.cps.toList = true) : NmF s := by
  cases e : s.cps.toList with
  | nil => rw [e] at h; cases h
  | cons c r =>
    rw [e] at h
    simp only [nmfB, Bool.and_eq_true, decide_eq_true_eq, List.all_eq_true] at h
    exact nmF_cons e h.1.1 h.1.2 h.2
def digL (i : Nat) : List Nat := (Str.ofString (toString (i : Int))).cps.toList
theorem dig_ok : ∀ i : Fin 31, (∃ c r, digL i = c :: r ∧ c ∉ lets.cps.toList) ∧ (∀ x ∈ digL i, x ∈ sgns.cps.toList) ∧ (digL i).length ≤ 2 := by
  have h : ∀ i : Fin 31, (match digL i with
    | [] => false
    | c :: _ => !decide (c ∈ lets.cps.toList)) = true ∧ ((digL i).all fun x => decide (x ∈ sgns.cps.toList)) = true ∧ (digL i).length ≤ 2 := by decide +kernel
  intro i
  obtain ⟨h1, h2, h3⟩ := h i
  refine ⟨?_, fun x hx => of_decide_eq_true (List.all_eq_true.mp h2 x hx), h3⟩
  cases e : digL i with
  | nil => rw [e] at h1; cases h1
  | cons c r => rw [e] at h1; exact ⟨c, r, rfl, by simpa using h1⟩
def letAt (j : Nat) : Nat := lets.cps.toList.getD j 0
theorem let_inj : ∀ a b : Fin 26, letAt a = letAt b → a = b := by decide +kernel
theorem let_in : ∀ a : Fin 26, letAt a ∈ lets.cps.toList := by decide +kernel
def candL (i j : Nat) : List Nat := letAt (j % 26) :: (digL i ++ if j < 26 then [] else [120])
theorem cand_f {i j : Nat} (hi : i < 31) (s : Str) (e : s.cps.toList = candL i j) : NmF s := by
  obtain ⟨_, h2, h3⟩ := dig_ok ⟨i, hi⟩
  refine nmF_cons e (let_in ⟨j % 26, by omega⟩) (fun x hx => ?_) ?_
  · rcases List.mem_append.mp hx with h | h
    · exact h2 x h
    · split at h
      · cases h
      · rw [List.mem_singleton.mp h]; decide +kernel
  · rw [List.length_append]
    have : (if j < 26 then [] else [120] : List Nat).length ≤ 1 := by split <;> decide
    have h3' : (digL i).length ≤ 2 := h3
    omega
theorem resv_let : ∀ s ∈ resv, ∀ c ∈ s.cps.toList, c ∈ lets.cps.toList := by decide +kernel
theorem cand_nr {i j : Nat} (hi : i < 31) (s : Str) (e : s.cps.toList = candL i j) : s ∉ resv := fun hm => by
  obtain ⟨⟨c, r, ec, hc⟩, _⟩ := dig_ok ⟨i, hi⟩
  refine hc (resv_let s hm c ?_)
  rw [e]
  have : digL i = c :: r := ec
  unfold candL
  rw [this]
  exact List.mem_cons_of_mem _ (List.mem_append_left _ List.mem_cons_self)
theorem cand_inj {i j k : Nat} (hj : j < 52) (hk : k < 52) (e : candL i j = candL i k) : j = k := by
  have h1 : letAt (j % 26) = letAt (k % 26) := (List.cons.inj e).1
  have h2 := congrArg List.length (List.cons.inj e).2
  have h3 := congrArg Fin.val (let_inj ⟨j % 26, by omega⟩ ⟨k % 26, by omega⟩ h1)
  have h4 : j % 26 = k % 26 := h3
  rw [List.length_append, List.length_append] at h2
  split at h2 <;> split at h2 <;> simp only [List.length_nil, List.length_cons] at h2 <;> omega
theorem pigeon {α : Type} [BEq α] [LawfulBEq α] : ∀ (xs ys : List α), xs.Nodup → (∀ x ∈ xs, x ∈ ys) → xs.length ≤ ys.length
  | [], _, _, _ => Nat.zero_le _
  | x :: r, ys, hn, h => by
    have hx := h x List.mem_cons_self
    obtain ⟨hnx, hnr⟩ := List.nodup_cons.mp hn
    have ih := pigeon r (ys.erase x) hnr fun y hy => (List.mem_erase_of_ne fun (e : y = x) => hnx (e ▸ hy)).mpr (h y (List.mem_cons_of_mem _ hy))
    rw [List.length_erase_of_mem hx] at ih
    have := List.length_pos_of_mem hx
    rw [List.length_cons]
    omega
/-- of 52 names one is free -/
theorem cand_free {i : Nat} (hi : i < 31) {ss : List Str} (hl : ss.length < 52) (h : ∀ j < 52, ∀ s : Str, s.cps.toList = candL i j → s ∈ ss ∨ s ∈ resv) : False := by
  have hs : ∀ j < 52, candL i j ∈ ss.map fun s => s.cps.toList := fun j hj => by
    have e : ((⟨(candL i j).toArray⟩ : Str)).cps.toList = candL i j := rfl
    rcases h j hj _ e with m | m
    · exact List.mem_map.mpr ⟨_, m, e⟩
    · exact absurd m (cand_nr hi _ e)
  have hn : ((List.range 52).map (candL i)).Nodup := by
    refine List.nodup_iff_pairwise_ne.mpr ?_ |> fun z => z
    rw [List.pairwise_map]
    refine List.Pairwise.imp_of_mem (fun {a b} ha hb hab e => ?_) (List.nodup_iff_pairwise_ne.mp List.nodup_range)
    exact hab (cand_inj (List.mem_range.mp ha) (List.mem_range.mp hb) e)
  have := pigeon _ _ hn fun x hx => by
    obtain ⟨j, hj, rfl⟩ := List.mem_map.mp hx
    exact hs j (List.mem_range.mp hj)
  rw [List.length_map, List.length_map, List.length_range] at this
  omega
theorem cut_x : ∀ j : Fin 52, (cutS (Str.ofString "x") none (some (((j : Nat) : Int) / 26))).cps.toList = (if (j : Nat) < 26 then [] else [120]) := by decide +kernel
structure NmsOk (ss : List Str) : Prop where
  f : ∀ s ∈ ss, NmF s
  r : ∀ s ∈ ss, s ∉ resv
  nd : ss.Nodup
theorem NmsOk.snoc {ss : List Str} {s : Str} (h : NmsOk ss) (hf : NmF s) (hr : s ∉ resv) (hs : s ∉ ss) : NmsOk (ss ++ [s]) where
  f := fun x hx => by
    rcases List.mem_append.mp hx with m | m
    · exact h.f x m
    · rw [List.mem_singleton.mp m]; exact hf
  r := fun x hx => by
    rcases List.mem_append.mp hx with m | m
    · exact h.r x m
    · rw [List.mem_singleton.mp m]; exact hr
  nd := by
    refine List.nodup_append.mpr ⟨h.nd, List.nodup_cons.mpr ⟨(fun m => by cases m), List.nodup_nil⟩, fun a ha b hb e => ?_⟩
    rw [List.mem_singleton.mp hb] at e
    exact hs (e ▸ ha)
theorem inV_iff {l : Str} {xs : List Str} : inV (V.str l) (xs.map V.str) = true ↔ l ∈ xs := by
  unfold inV
  rw [List.any_map, List.any_eq_true]
  constructor
  · rintro ⟨x, hx, h⟩
    have : (x == l) = true := h
    rw [← eq_of_beq this]
    exact hx
  · intro h
    exact ⟨l, h, (beq_self_eq_true l : (l == l) = true)⟩
theorem mem_join0 {S : List Nat} : ∀ (parts : List Str), (∀ p ∈ parts, ∀ c ∈ p.cps.toList, c ∈ S) → ∀ c ∈ (Txt.join (Str.ofString "") parts).cps.toList, c ∈ S := by
  intro parts h c hc
  have e2 := TL.tl_join (Str.ofString "") parts
  rw [← TL.join_eq, show TL.tl (Str.ofString "") = [] by decide +kernel] at e2
  have e3 : (Txt.join (Str.ofString "") parts).cps.toList = TL.joinL [] (parts.map TL.tl) := e2
  rw [e3] at hc
  clear e2 e3
  induction parts with
  | nil => cases hc
  | cons p r ih =>
    cases r with
    | nil => exact h p List.mem_cons_self c hc
    | cons q r =>
      have hc2 : c ∈ TL.tl p ++ ([] ++ TL.joinL [] ((q :: r).map TL.tl)) := hc
      rw [List.nil_append] at hc2
      rcases List.mem_append.mp hc2 with m | m
      · exact h p List.mem_cons_self c m
      · exact ih (fun p hp => h p (List.mem_cons_of_mem _ hp)) m
theorem str_ext {a b : Str} (h : a.cps.toList = b.cps.toList) : a = b := by
  cases a; cases b
  have := Array.toList_inj.mp h
  simp only at this
  rw [this]
/-! ### values and conditions as trees -/
theorem Fd.none {P : Program} {w : World} {K : PySem.W.Frag} {mg : Str → Option Value} {base : Heap} {x qual : Str} {st : Stmt} {f : Addr} {fd : FuncData} {ps : List Str} {k : Nat} {sp : Sp} (F : Fun K x qual st f fd) (m : mg x = some (.ref f)) (b : Binds K fd ps [])
    (no : ∀ vs H Q E, ¬ sp vs H Q E) : Fd P w K mg base x ps k sp := ⟨f, fd, ⟨fun vs H Q E h => absurd h (no vs H Q E), fun A outer s H args us vs Q E _ _ _ _ h => absurd h (no vs H Q E)⟩, m, F.kp, b⟩
theorem yesQ {c : TT} {t u r : TS} {D : Ends} {σ : L2.St} {H : Hp} (h : Ans c σ H true) (q : t { D with nx := r D } σ H) : tSeq (tIfS c t u) r D σ H := ifQ h (fun _ => q) fun z => nomatch z
theorem yesS {c : TT} {t u : TS} {D : Ends} {σ : L2.St} {H : Hp} (h : Ans c σ H true) (q : t D σ H) : tIfS c t u D σ H := ifS h (fun _ => q) fun z => nomatch z
/-- what is new in H' over H -/
def Nw (H H' : Hp) : Hp := fun a => match H a with
  | none => H' a
  | some _ => none
theorem nw_at {H H' : Hp} {a : Addr} (h : H a = none) : Nw H H' a = H' a := by
  unfold Nw
  rw [h]
theorem nw_old {H H' : Hp} {a : Addr} {o : HO} (h : H a = some o) : Nw H H' a = none := by
  unfold Nw
  rw [h]
theorem nw_some {H H' : Hp} {a : Addr} {o : HO} (h : Nw H H' a = some o) : H a = none ∧ H' a = some o := by
  cases e : H a with
  | none => rw [nw_at e] at h; exact ⟨rfl, h⟩
  | some x => rw [nw_old e] at h; cases h
theorem nw_same {H H' : Hp} : Same (Nw H H') H' := fun _ _ h => (nw_some h).2
theorem nw_mono {H H1 H2 H3 : Hp} (a : Same H H1) (b : Same H2 H3) : Same (Nw H1 H2) (Nw H H3) := fun x o h => by
  obtain ⟨h1, h2⟩ := nw_some h
  rw [nw_at (a.free h1)]
  exact b x o h2
/-- what is there is there -/
def Dm (H H' : Hp) : Prop := ∀ a, H' a = none → H a = none
theorem Same.dm {H H' : Hp} (s : Same H H') : Dm H H' := fun _ h => s.free h
theorem Dm.trans {H H1 H2 : Hp} (a : Dm H H1) (b : Dm H1 H2) : Dm H H2 := fun x h => a x (b x h)
theorem dm_upd {H H' : Hp} {D : Addr} {o u : HO} (s : Same H H') (h : H' D = some o) : Dm (upd H D u) H' := fun a ha => by
  have hne : a ≠ D := fun e => by rw [e, h] at ha; cases ha
  rw [upd_ne hne]
  exact s.free ha
theorem dm_up {H : Hp} {D : Addr} {u : HO} : Dm H (upd H D u) := fun a ha => by
  by_cases e : a = D
  · rw [e, upd_same] at ha; cases ha
  · rw [upd_ne e] at ha; exact ha
theorem nw_mono2 {H H1 H2 H3 : Hp} (a : Dm H H1) (b : Same H2 H3) : Same (Nw H1 H2) (Nw H H3) := fun x o h => by
  obtain ⟨h1, h2⟩ := nw_some h
  rw [nw_at (a x h1)]
  exact b x o h2
theorem nw_upd {H H' : Hp} {a : Addr} {o u : HO} (h : H a = some o) : Same (Nw H H') (Nw H (upd H' a u)) := fun x y e => by
  obtain ⟨h1, h2⟩ := nw_some e
  rw [nw_at h1, upd_ne (ne_of_none h h1).symm]
  exact h2
inductive Ar where
  | add | sub | mul
def Ar.tx : Ar → Str
  | .add => Str.ofString "+"
  | .sub => Str.ofString "-"
  | .mul => Str.ofString "*"
def Ar.ev : Ar → Int → Int → Int
  | .add, a, b => a + b
  | .sub, a, b => a - b
  | .mul, a, b => a * b
inductive VT where
  | int (i : Int) | nm (s : Str) | op (o : Ar) (a b : VT)
def VT.ht : VT → Nat
  | .op _ a b => max a.ht b.ht + 1
  | _ => 0
def RVal (H : Hp) : VT → V → Prop
  | .int i, v => v = .int i
  | .nm s, v => v = .str s
  | .op o a b, v => ∃ t x y, v = .ref t ∧ H t = some (.tup [.str o.tx, x, y]) ∧ RVal H a x ∧ RVal H b y
theorem RVal.mono {H H' : Hp} (e : Same H H') : ∀ {t : VT} {v : V}, RVal H t v → RVal H' t v
  | .int _, _, h => h
  | .nm _, _, h => h
  | .op _ _ _, _, ⟨t, x, y, e1, e2, ha, hb⟩ => ⟨t, x, y, e1, e _ _ e2, RVal.mono e ha, RVal.mono e hb⟩
def look (kvs : List (Key × V)) (s : Str) : Int := match valV kvs (Sum.inr s) with
  | some (.int i) => i
  | _ => 0
def VT.ev (kvs : List (Key × V)) : VT → Int
  | .int i => i
  | .nm s => look kvs s
  | .op o a b => o.ev (a.ev kvs) (b.ev kvs)
def VT.wt : VT → Nat
  | .op _ a b => a.wt + b.wt
  | _ => 8
def Fine (kvs : List (Key × V)) : VT → Prop
  | .int i => i.natAbs < 256
  | .nm s => ∃ i : Int, valV kvs (Sum.inr s) = some (.int i) ∧ i.natAbs < 256
  | .op _ a b => Fine kvs a ∧ Fine kvs b
theorem VT.wt_pos : ∀ t : VT, 8 ≤ t.wt
  | .int _ => Nat.le_refl 8
  | .nm _ => Nat.le_refl 8
  | .op _ a b => by show 8 ≤ a.wt + b.wt; have := a.wt_pos; omega
theorem pow_add_le {a b x y : Nat} (ha : x < 2 ^ a) (hb : y < 2 ^ b) (h1 : 1 ≤ a) (h2 : 1 ≤ b) : x + y < 2 ^ (a + b) := by
  have ea : 2 ^ (a + b) = 2 ^ a * 2 ^ b := Nat.pow_add 2 a b
  have h3 : 2 ≤ 2 ^ a := by
    have := Nat.pow_le_pow_right (show 0 < 2 by decide) h1
    omega
  have h4 : 2 ≤ 2 ^ b := by
    have := Nat.pow_le_pow_right (show 0 < 2 by decide) h2
    omega
  generalize 2 ^ a = u at *
  generalize 2 ^ b = v at *
  rw [ea]
  have h5 : u + v ≤ u * v := by
    rcases Nat.le_total u v with h | h
    · have := Nat.mul_le_mul_right v h3
      omega
    · have := Nat.mul_le_mul_left u h4
      omega
  omega
theorem ev_lt {kvs : List (Key × V)} : ∀ {t : VT}, Fine kvs t → (t.ev kvs).natAbs < 2 ^ t.wt
  | .int i, h => h
  | .nm s, ⟨i, e, h⟩ => by
    show (look kvs s).natAbs < 2 ^ 8
    unfold look
    rw [e]
    exact h
  | .op o a b, ⟨ha, hb⟩ => by
    have h1 := ev_lt ha
    have h2 := ev_lt hb
    have p1 := a.wt_pos
    have p2 := b.wt_pos
    have h3 := pow_add_le h1 h2 (by omega) (by omega)
    show (o.ev (a.ev kvs) (b.ev kvs)).natAbs < 2 ^ (a.wt + b.wt)
    cases o with
    | add => show (a.ev kvs + b.ev kvs).natAbs < _; omega
    | sub => show (a.ev kvs - b.ev kvs).natAbs < _; omega
    | mul => exact wide_lt h1 h2
inductive Cp where
  | eq | lt | le
def Cp.tx : Cp → Str
  | .eq => Str.ofString "="
  | .lt => Str.ofString "<"
  | .le => Str.ofString "<="
def Cp.ev : Cp → Int → Int → Bool
  | .eq, a, b => decide (V.int a = V.int b)
  | .lt, a, b => decide (a < b)
  | .le, a, b => decide (a ≤ b)
inductive CT where
  | bl (b : Bool) | no (c : CT) | an (a b : CT) | or (a b : CT) | cp (o : Cp) (a b : VT)
def CT.ht : CT → Nat
  | .bl _ => 0
  | .no c => c.ht + 1
  | .an a b => max a.ht b.ht + 1
  | .or a b => max a.ht b.ht + 1
  | .cp _ _ _ => 0
def RCond (H : Hp) : CT → V → Prop
  | .bl b, v => v = .bl b
  | .no c, v => ∃ t x, v = .ref t ∧ H t = some (.tup [.str (Str.ofString "not"), x]) ∧ RCond H c x
  | .an a b, v => ∃ t x y, v = .ref t ∧ H t = some (.tup [.str (Str.ofString "and"), x, y]) ∧ RCond H a x ∧ RCond H b y
  | .or a b, v => ∃ t x y, v = .ref t ∧ H t = some (.tup [.str (Str.ofString "or"), x, y]) ∧ RCond H a x ∧ RCond H b y
  | .cp o a b, v => ∃ t x y, v = .ref t ∧ H t = some (.tup [.str o.tx, x, y]) ∧ RVal H a x ∧ RVal H b y
theorem RCond.mono {H H' : Hp} (e : Same H H') : ∀ {t : CT} {v : V}, RCond H t v → RCond H' t v
  | .bl _, _, h => h
  | .no _, _, ⟨t, x, e1, e2, ha⟩ => ⟨t, x, e1, e _ _ e2, RCond.mono e ha⟩
  | .an _ _, _, ⟨t, x, y, e1, e2, ha, hb⟩ => ⟨t, x, y, e1, e _ _ e2, RCond.mono e ha, RCond.mono e hb⟩
  | .or _ _, _, ⟨t, x, y, e1, e2, ha, hb⟩ => ⟨t, x, y, e1, e _ _ e2, RCond.mono e ha, RCond.mono e hb⟩
  | .cp _ _ _, _, ⟨t, x, y, e1, e2, ha, hb⟩ => ⟨t, x, y, e1, e _ _ e2, RVal.mono e ha, RVal.mono e hb⟩
def CT.ev (kvs : List (Key × V)) : CT → Bool
  | .bl b => b
  | .no c => !c.ev kvs
  | .an a b => a.ev kvs && b.ev kvs
  | .or a b => a.ev kvs || b.ev kvs
  | .cp o a b => o.ev (a.ev kvs) (b.ev kvs)
/-- every value in it is fine, of height below n and of weight at most m -/
def CFine (kvs : List (Key × V)) (n m : Nat) : CT → Prop
  | .bl _ => True
  | .no c => CFine kvs n m c
  | .an a b => CFine kvs n m a ∧ CFine kvs n m b
  | .or a b => CFine kvs n m a ∧ CFine kvs n m b
  | .cp _ a b => (Fine kvs a ∧ a.ht < n ∧ a.wt ≤ m) ∧ Fine kvs b ∧ b.ht < n ∧ b.wt ≤ m
/-! ### data: what stands in the heap, at any depth -/
mutual
theorem dp_mono {K : PySem.W.Frag} {H H' : Hp} (e : Same H H') : ∀ {v : V} {d : PyData}, Dp K H v d → Dp K H' v d
  | _, .none, .non => .non
  | _, .bool _, .bl b => .bl b
  | _, .int _, .int i => .int i
  | _, .str _, .str x => .str x
  | _, .list _, .lst h a => .lst (e.seq h) (dpAll_mono e a)
  | _, .tuple _, .tup h a => .tup (Same.seqT e h) (dpAll_mono e a)
theorem dpAll_mono {K : PySem.W.Frag} {H H' : Hp} (e : Same H H') : ∀ {vs : List V} {ds : List PyData}, DpAll K H vs ds → DpAll K H' vs ds
  | _, [], .nil => .nil
  | _, _ :: _, .cons h t => .cons (dp_mono e h) (dpAll_mono e t)
end
theorem dpa_len {K : PySem.W.Frag} {H : Hp} : ∀ {ds : List PyData} {vs : List V}, DpAll K H vs ds → vs.length = ds.length
  | [], _, .nil => rfl
  | _ :: _, _, .cons _ t => congrArg (· + 1) (dpa_len t)
theorem dpa_at {K : PySem.W.Frag} {H : Hp} : ∀ {ds : List PyData} {vs : List V}, DpAll K H vs ds → ∀ {i : Nat} {v : V}, vs[i]? = some v → ∃ d, ds[i]? = some d ∧ Dp K H v d
  | [], _, .nil, i, v, h => by simp at h
  | _ :: _, _, .cons a t, 0, v, h => by
    have := Option.some.inj h
    subst this
    exact ⟨_, rfl, a⟩
  | _ :: _, _, .cons a t, i + 1, v, h => dpa_at t (i := i) h
theorem dpa_at' {K : PySem.W.Frag} {H : Hp} : ∀ {ds : List PyData} {vs : List V}, DpAll K H vs ds → ∀ {i : Nat} {d : PyData}, ds[i]? = some d → ∃ v, vs[i]? = some v ∧ Dp K H v d
  | [], _, .nil, i, v, h => by simp at h
  | _ :: _, _, .cons a t, 0, v, h => by
    have := Option.some.inj h
    subst this
    exact ⟨_, rfl, a⟩
  | _ :: _, _, .cons a t, i + 1, v, h => dpa_at' t (i := i) h
theorem dpa_app {K : PySem.W.Frag} {H : Hp} : ∀ {ds es : List PyData} {vs us : List V}, DpAll K H vs ds → DpAll K H us es → DpAll K H (vs ++ us) (ds ++ es)
  | [], _, _, _, .nil, b => b
  | _ :: _, _, _, _, .cons a t, b => .cons a (dpa_app t b)
theorem dpa_strs {K : PySem.W.Frag} {H : Hp} : ∀ ss : List Str, DpAll K H (ss.map V.str) (ss.map PyData.str)
  | [] => .nil
  | s :: r => .cons (.str s) (dpa_strs r)
theorem dpa_ints {K : PySem.W.Frag} {H : Hp} : ∀ ss : List Int, DpAll K H (ss.map V.int) (ss.map PyData.int)
  | [] => .nil
  | s :: r => .cons (.int s) (dpa_ints r)
/-- a tuple of data -/
theorem dp_tup {K : PySem.W.Frag} {H : Hp} {v : V} {ds : List PyData} (h : Dp K H v (.tuple ds)) : ∃ a xs, v = .ref a ∧ SqT K H a xs ∧ DpAll K H xs ds := by
  cases h with
  | tup hs ha => exact ⟨_, _, rfl, hs, ha⟩
theorem dp_lst {K : PySem.W.Frag} {H : Hp} {v : V} {ds : List PyData} (h : Dp K H v (.list ds)) : ∃ a xs, v = .ref a ∧ SqL K H a xs ∧ DpAll K H xs ds := by
  cases h with
  | lst hs ha => exact ⟨_, _, rfl, hs, ha⟩
theorem dp_str {K : PySem.W.Frag} {H : Hp} {v : V} {s : Str} (h : Dp K H v (.str s)) : v = .str s := by cases h; rfl
theorem dp_int {K : PySem.W.Frag} {H : Hp} {v : V} {s : Int} (h : Dp K H v (.int s)) : v = .int s := by cases h; rfl
theorem dpa_cons {K : PySem.W.Frag} {H : Hp} {vs : List V} {d : PyData} {ds : List PyData} (h : DpAll K H vs (d :: ds)) : ∃ v r, vs = v :: r ∧ Dp K H v d ∧ DpAll K H r ds := by
  cases h with
  | cons a t => exact ⟨_, _, rfl, a, t⟩
theorem dpa_nil {K : PySem.W.Frag} {H : Hp} {vs : List V} (h : DpAll K H vs []) : vs = [] := by cases h; rfl
theorem dpa_strsE {K : PySem.W.Frag} {H : Hp} : ∀ {ss : List Str} {vs : List V}, DpAll K H vs (ss.map PyData.str) → vs = ss.map V.str
  | [], _, h => dpa_nil h
  | s :: r, _, h => by
    obtain ⟨v, q, rfl, a, t⟩ := dpa_cons h
    rw [dp_str a, dpa_strsE t]
    rfl
/-! ### data that can be shown and compared -/
mutual
def nice : PyData → Bool
  | .none | .bool _ => true
  | .int i => decide (i.natAbs < 10 ^ 7)
  | .str s => (s.cps.toList.all fun c => decide (c < 128)) && decide (s.length ≤ 20)
  | .list xs | .tuple xs => niceAll xs
  | .dict _ => false
def niceAll : List PyData → Bool
  | [] => true
  | x :: xs => nice x && niceAll xs
end
mutual
def cells : PyData → Nat
  | .list xs | .tuple xs => cellsAll xs + 1
  | .none | .bool _ | .int _ | .str _ | .dict _ => 1
def cellsAll : List PyData → Nat
  | [] => 0
  | x :: xs => cells x + cellsAll xs
end
mutual
theorem nice_lay : ∀ d : PyData, nice d = true → d.canLay0 = true
  | .none, _ => rfl
  | .bool _, _ => rfl
  | .int _, _ => rfl
  | .str s, h => by
    simp only [nice, Bool.and_eq_true, List.all_eq_true, decide_eq_true_eq] at h
    show (s.cps.all fun c => decide (c < 0x110000)) = true
    rw [← Array.all_toList, List.all_eq_true]
    intro c hc
    have := h.1 c hc
    exact decide_eq_true (by omega)
  | .list xs, h => by
    show PyData.canLayAll0 xs = true
    exact nice_layAll xs h
  | .tuple xs, h => by
    show PyData.canLayAll0 xs = true
    exact nice_layAll xs h
  | .dict _, h => nomatch h
theorem nice_layAll : ∀ xs : List PyData, niceAll xs = true → PyData.canLayAll0 xs = true
  | [], _ => rfl
  | x :: xs, h => by
    have h' : nice x = true ∧ niceAll xs = true := by simpa only [niceAll, Bool.and_eq_true] using h
    show (x.canLay0 && PyData.canLayAll0 xs) = true
    rw [nice_lay x h'.1, nice_layAll xs h'.2]
    rfl
end
mutual
theorem nice_short : ∀ d : PyData, nice d = true → d.leavesShort 8 = true ∧ d.showable = true
  | .none, _ => ⟨rfl, rfl⟩
  | .bool _, _ => ⟨rfl, rfl⟩
  | .int i, h => by
    have h1 : i.natAbs < 10 ^ 7 := by simpa only [nice, decide_eq_true_eq] using h
    refine ⟨?_, ?_⟩
    · show decide ((Str.ofString (toString i)).length ≤ 8) = true
      have := int_text_length_le10 (a := i) (k := 7) (by decide) h1
      refine decide_eq_true ?_
      rw [PySem.ofString_length]
      exact this
    · show decide (i.natAbs.log2 < 1920) = true
      refine decide_eq_true ?_
      have h2 : i.natAbs.log2 ≤ i.natAbs := Nat.log2_le_self _
      by_cases h0 : i.natAbs = 0
      · rw [h0]; decide
      · rw [Nat.log2_lt h0]
        exact Nat.lt_of_lt_of_le h1 (by decide +kernel)
  | .str s, h => by
    simp only [nice, Bool.and_eq_true, List.all_eq_true, decide_eq_true_eq] at h
    refine ⟨?_, rfl⟩
    show (s.cps.toList.all fun c => decide (c < 16 ^ 8)) = true
    rw [List.all_eq_true]
    intro c hc
    have := h.1 c hc
    exact decide_eq_true (Nat.lt_of_lt_of_le this (by decide))
  | .list xs, h => nice_shortAll xs h
  | .tuple xs, h => nice_shortAll xs h
  | .dict _, h => nomatch h
theorem nice_shortAll : ∀ xs : List PyData, niceAll xs = true → PyData.leavesShortAll 8 xs = true ∧ PyData.showableAll xs = true
  | [], _ => ⟨rfl, rfl⟩
  | x :: xs, h => by
    have h' : nice x = true ∧ niceAll xs = true := by simpa only [niceAll, Bool.and_eq_true] using h
    obtain ⟨a1, a2⟩ := nice_short x h'.1
    obtain ⟨b1, b2⟩ := nice_shortAll xs h'.2
    refine ⟨?_, ?_⟩
    · show (x.leavesShort 8 && PyData.leavesShortAll 8 xs) = true
      rw [a1, b1]; rfl
    · show (x.showable && PyData.showableAll xs) = true
      rw [a2, b2]; rfl
end
mutual
theorem nice_bulk : ∀ d : PyData, nice d = true → d.bulk + 1 ≤ 21 * cells d
  | .none, _ => by decide
  | .bool _, _ => by show 0 + 1 ≤ 21 * 1; decide
  | .int _, _ => by show 0 + 1 ≤ 21 * 1; decide
  | .str s, h => by
    simp only [nice, Bool.and_eq_true, List.all_eq_true, decide_eq_true_eq] at h
    have : s.cps.size ≤ 20 := h.2
    show s.cps.size + 1 ≤ 21 * 1
    omega
  | .list xs, h => by
    have := nice_bulkAll xs h
    show PyData.bulkAll xs + 1 ≤ 21 * (cellsAll xs + 1)
    omega
  | .tuple xs, h => by
    have := nice_bulkAll xs h
    show PyData.bulkAll xs + 1 ≤ 21 * (cellsAll xs + 1)
    omega
  | .dict _, h => nomatch h
theorem nice_bulkAll : ∀ xs : List PyData, niceAll xs = true → PyData.bulkAll xs ≤ 21 * cellsAll xs
  | [], _ => by decide
  | x :: xs, h => by
    have h' : nice x = true ∧ niceAll xs = true := by simpa only [niceAll, Bool.and_eq_true] using h
    have h1 := nice_bulk x h'.1
    have h2 := nice_bulkAll xs h'.2
    show x.bulk + 1 + PyData.bulkAll xs ≤ 21 * (cells x + cellsAll xs)
    omega
end
structure NcD (d : PyData) (c m : Nat) : Prop where
  ni : nice d = true
  ce : cells d ≤ c
  de : d.depth ≤ m
structure NcL (ds : List PyData) (c m : Nat) : Prop where
  ni : niceAll ds = true
  ce : cellsAll ds ≤ c
  de : PyData.depthAll ds ≤ m
theorem NcD.mono {d : PyData} {c m c' m' : Nat} (h : NcD d c m) (h1 : c ≤ c') (h2 : m ≤ m') : NcD d c' m' := ⟨h.ni, Nat.le_trans h.ce h1, Nat.le_trans h.de h2⟩
theorem NcL.mono {d : List PyData} {c m c' m' : Nat} (h : NcL d c m) (h1 : c ≤ c') (h2 : m ≤ m') : NcL d c' m' := ⟨h.ni, Nat.le_trans h.ce h1, Nat.le_trans h.de h2⟩
theorem NcL.nil {c m : Nat} : NcL [] c m := ⟨rfl, Nat.zero_le _, Nat.zero_le _⟩
theorem NcL.cons {d : PyData} {ds : List PyData} {c1 c2 m : Nat} (h : NcD d c1 m) (t : NcL ds c2 m) : NcL (d :: ds) (c1 + c2) m := by
  have h1 := h.ce
  have h2 := t.ce
  have h3 := h.de
  have h4 := t.de
  refine ⟨?_, ?_, ?_⟩
  · show (nice d && niceAll ds) = true
    rw [h.ni, t.ni]; rfl
  · show cells d + cellsAll ds ≤ c1 + c2
    omega
  · show max d.depth (PyData.depthAll ds) ≤ m
    omega
theorem NcL.tup {ds : List PyData} {c m : Nat} (h : NcL ds c m) : NcD (.tuple ds) (c + 1) (m + 1) := ⟨h.ni, Nat.succ_le_succ h.ce, Nat.succ_le_succ h.de⟩
theorem NcL.lst {ds : List PyData} {c m : Nat} (h : NcL ds c m) : NcD (.list ds) (c + 1) (m + 1) := ⟨h.ni, Nat.succ_le_succ h.ce, Nat.succ_le_succ h.de⟩
theorem NcD.str {s : Str} {m : Nat} (h : nice (.str s) = true) : NcD (.str s) 1 m := ⟨h, Nat.le_refl _, Nat.zero_le _⟩
theorem NcD.int {i : Int} {m : Nat} (h : i.natAbs < 10 ^ 7) : NcD (.int i) 1 m := ⟨decide_eq_true h, Nat.le_refl _, Nat.zero_le _⟩
theorem NcD.shaped {d : PyData} {c m : Nat} (h : NcD d c m) (hm : m ≤ 64) : SeqAt.shaped d = true := by
  show (d.canLay0 && decide (d.depth ≤ 64)) = true
  have h1 := h.de
  rw [nice_lay d h.ni, decide_eq_true (by omega)]
  rfl
theorem NcD.eqv {d : PyData} {c m : Nat} (h : NcD d c m) : PyData.eqv d d = true := SeqAt.eqv_refl d (nice_lay d h.ni)
structure Shw (d : PyData) : Prop where
  sh : d.showable = true
  nd : d.hasDict = false
  de : d.depth ≤ 60
  ln : d.shown.length ≤ sizeLine
theorem NcD.shw {d : PyData} {c m : Nat} (h : NcD d c m) (hc : c ≤ 40000) (hm : m ≤ 60) : Shw d := by
  have h1 := nice_short d h.ni
  have h2 := nice_bulk d h.ni
  have h3 := h.de
  have h4 := h.ce
  refine ⟨h1.2, PyData.hasDict_of_canLay d (nice_lay d h.ni), by omega, PyData.shown_fits_bulk (by decide) (by decide) h1.1 ?_⟩
  rw [show (2 : Nat) ^ 20 = 1048576 from rfl]
  omega
/-! ### repr of data, and a law's call from outside all frames (there no guard is up) -/
section
variable {X : Cx}
def rRepr (K : PySem.W.Frag) : List V → Hp → VK → Prop := fun xs H Q => ∃ (a : Addr) (d : PyData), xs = [.ref a] ∧ Dp K H (.ref a) d ∧ d.showable = true ∧ d.hasDict = false ∧ d.depth ≤ 60 ∧ d.shown.length ≤ sizeLine ∧ Q (.str d.shown) H
theorem cRepr (K : PySem.W.Frag) (hg : X.A.guards = some []) (hu : X.A.units + 64 < cLine) (hK : X.K = K := by rfl) : CallR X (.builtin "repr") (rRepr K) := by
  subst hK
  rintro pins s σ H xs us Q I r ⟨a, d, rfl, hd, hs, hn, hp, hz, q⟩
  obtain ⟨u, rfl, ru⟩ := vals1 r
  cases ru
  obtain ⟨as, hr⟩ := Dp.reads I d _ _ hd rfl
  exact PySem.repr_of_reads' hr hs (fun z => by rw [hn] at z; cases z) hg (by omega) (fun _ _ e => e) (fun h' t tk kp => ⟨.str d.shown, H, I.kept kp, ⟨t, rfl⟩, q⟩) hz
end
/-- the law's def keeps sp where it is called with the script, from outside -/
def TopOk (P : Program) (w : World) (K : PySem.W.Frag) (mg : Str → Option Value) (base : Heap) (f : Addr) (sp : Sp) : Prop :=
  ∀ (s : Shared) (H : Hp) (a : Addr) (Q : VK), Env0 P w K mg base callerA [] s H → sp [.ref a] H Q E0 → codeAny (model P w) callerA (.call (.ref f) ⟨[.ref a], []⟩) (CR CX0 [] P w H s Q E0) s
theorem top_ok {P : Program} {w : World} {K : PySem.W.Frag} {mg : Str → Option Value} {base : Heap} {x : Str} {st : Stmt} {f : Addr} {fd : FuncData} {N : List Str} {k : Nat} {sp : Sp} (F : Fun K x x st f fd) (S : FnScope N ["script"] (defScope st)) (hroom : Room (k + 1) callerA)
    (bind : ∀ (s : Shared) (v : Value), BindsTo s fd ⟨[v], []⟩ [("script", v)])
    (body : ∀ (cdv : Value) (s : Shared) (H : Hp) (a : Addr) (Q : VK), Room k (callerA.deeper (envOfC x (defScope st) s.heap.objs.size f cdv)) → sp [.ref a] H Q E0 →
      ∃ t, PSs (cxOf CX0 P w K mg base N x (defScope st) f cdv callerA [] s H E0).nox (defBody st) t ∧ t { nx := fun _ H' => Q .non H', rt := Q } (start N [.ref a]) H) : TopOk P w K mg base f sp := by
  obtain ⟨c1, c2, c3, c4, c5, c6, cd, c8, c9, rfl, look, code⟩ := F.ex
  intro s H a Q env want
  have inS : K.In s.heap := PySem.W.Frag.In.keeps env.mod.kin (fun b o z => (env.bs b o z).1)
  have room := hroom.deeper (envOfC x (defScope st) s.heap.objs.size f cd)
  obtain ⟨t, good, read⟩ := body cd s H a Q room want
  refine codeAny_call_function (by decide) (inS f _ look) rfl S.co S.gen rfl (PySem.W.codeRec_of inS code) (bind s _ _ _ _ _ ?_)
  have names : ∀ y ∈ [(("script" : Str), Value.ref a)], (defScope st).names.lookup y.1 = some .local ∨ ((defScope st).names.lookup y.1 = some .cell ∧ ((cellsFrom (s.heap.objs.size + 1) (defScope st).names []).lookup y.1).isSome = true) := by
    intro y hy
    rw [List.mem_singleton.mp hy]
    exact (S.par "script" List.mem_cons_self).imp id fun z => ⟨z, PySem.W.cellsFrom_some _ _ _ (.inl z)⟩
  refine wpAny_newFunctionEnv_cells S.kind names ?_
  rintro _ rfl s1 made
  have few : s.heap.NoLimit := Heap.NoLimit.keeps env.mod.nolimit (fun b o z => (env.bs b o z).1)
  refine ⟨Heap.NoLimit.keeps few made.toInCall.keep, codeAny_func ?_⟩
  have inv := inv_start (CX := CX0) (vs := [V.ref a]) (us := [Value.ref a]) (E := E0) S hroom.hd env rfl (.cons rfl .nil) made
  refine wpAny_mono (good.nox.run [] s1 _ H _ inv read) ?_ (fun _ _ z => z)
  intro fl s2 out
  cases fl with
  | brk => exact False.elim out.choose_spec.choose_spec.2
  | cont => exact False.elim out.choose_spec.choose_spec.2
  | next =>
    obtain ⟨σ2, H2, inv2, q2⟩ := out
    exact ⟨.non, H2, inv2.os, inv2.bare, inv2.base, inv2.hok, rfl, q2⟩
  | ret u =>
    obtain ⟨v, σ2, H2, inv2, rel, q2⟩ := out
    exact ⟨v, H2, inv2.os, inv2.bare, inv2.base, inv2.hok, rel, q2⟩
/-- what the object of the script is taken for: the locked list, unless it is an object of the module -/
def hpOf (K : PySem.W.Frag) (a : Addr) (o : Obj) (ns : List Int) : Hp := fun b => if b = a ∧ K.lookup a = none then some (.frz o (.lst (ns.map V.int))) else none
theorem hp_none {K : PySem.W.Frag} {a b : Addr} {o : Obj} {ns : List Int} (h : b ≠ a) : hpOf K a o ns b = none := if_neg fun z => h z.1
theorem hp_ne {K : PySem.W.Frag} {a b : Addr} {o : Obj} {ns : List Int} {u : HO} (h : hpOf K a o ns b = some u) : b = a ∧ K.lookup a = none ∧ u = .frz o (.lst (ns.map V.int)) := by
  unfold hpOf at h
  split at h
  · rename_i c
    exact ⟨c.1, c.2, (Option.some.inj h).symm⟩
  · cases h
theorem ints_vals : ∀ {vs : List Value} {ns : List Int}, IntsAre vs ns → Vals (ns.map V.int) vs := fun h => vals_ints h
theorem top_call {P : Program} {w : World} {K : PySem.W.Frag} {mg mb : Str → Option Value} {fa a : Addr} {sp : Sp} {s1 : Shared} {vs : List Value} {ns : List Int} (KX : K.In s1.heap) (hns : s1.heap.Ns mainGlobals mg) (hb : s1.heap.Ns builtinsNs mb) (hbb : ∀ x : Str, x ≠ "__name__" → mb x = bootBuiltins x)
    (hlim : s1.heap.NoLimit) (hg : s1.gens = #[]) (ha : s1.heap.get? a = some { cls := .type "list", data := .seq vs.toArray }) (hi : IntsAre vs ns) (hl : ns.length ≤ sizeLine) (F : ∀ base : Heap, K.In base → base.Ns mainGlobals mg → TopOk P w K mg base fa sp)
    (hsp : ∀ H : Hp, SqL K H a (ns.map V.int) → sp [.ref a] H (fun v _ => v = .bl true) E0) :
    codeAny (model P w) callerA (.call (.ref fa) ⟨[.ref a], []⟩) (fun r s' => r = .ok (.ret (.bool true)) ∧ OldK s1.heap s'.heap ∧ s'.os = s1.os ∧ AllBare s'.gens) s1 := by
  have rel := vals_ints hi
  have size := hi.length
  generalize hob : ({ cls := .type "list", data := .seq vs.toArray } : Obj) = ob at ha
  generalize hH : hpOf K a ob ns = H
  have known : ∀ {b : Addr} {u : HO}, H b = some u → b = a ∧ K.lookup a = none ∧ u = .frz ob (.lst (ns.map V.int)) := fun z => hp_ne (hH ▸ z)
  have free : ∀ {b : Addr}, b ≠ a → H b = none := fun z => hH ▸ hp_none z
  -- what is a dict, or the module's own, is not hidden
  have dictFree : ∀ {b : Addr} {o : Obj} {es : Array DictEntry} {ep : Nat}, s1.heap.get? b = some o → o.data = .dict es ep → H b = none := by
    intro b o es ep e d
    refine free fun z => ?_
    rw [z, ha] at e
    cases e
    rw [← hob] at d
    cases d
  have kFree : ∀ {b : Addr} {o : Obj}, K.lookup b = some o → H b = none := by
    intro b o e
    cases h : H b with
    | none => rfl
    | some u =>
      obtain ⟨z1, z2, _⟩ := known h
      rw [z1, z2] at e
      cases e
  have seen : ∀ {b : Addr} {o : Obj}, s1.heap.get? b = some o → H b = none → (hidT s1.heap H).get? b = some o := fun e n => hidT_get e n
  have kIn : K.In (hidT s1.heap H) := fun b o e => seen (KX b o e) (kFree e)
  have spaces : ∀ {b : Addr} {m : Str → Option Value}, s1.heap.Ns b m → (hidT s1.heap H).Ns b m := by
    rintro b m ⟨o, es, ep, e, d, r⟩
    exact ⟨o, es, ep, seen e (dictFree e d), d, r⟩
  have limit : (hidT s1.heap H).NoLimit := by
    obtain ⟨mc, l1, l2⟩ := hlim
    exact ⟨mc, spaces l1, l2⟩
  have ok : HOk P w H s1.heap := by
    intro b u z
    obtain ⟨rfl, _, rfl⟩ := known z
    subst hob
    exact ⟨ha, by rw [List.length_map]; exact hl, vs, _, rel, ha⟩
  have script : SqL K H a (ns.map V.int) := by
    cases h : K.lookup a with
    | none => exact .inl (.inr ⟨ob, by rw [← hH]; exact if_pos ⟨rfl, h⟩⟩)
    | some o =>
      have e := KX a o h
      rw [ha] at e
      cases e
      subst hob
      exact .inr ⟨_, vs.toArray, _, h, rfl, rfl, rfl, by rw [List.size_toArray, size]; exact hl, by rw [List.toList_toArray]; exact rel⟩
  have env : Env0 P w K mg (hidT s1.heap H) callerA [] s1 H := {
    frames := rfl
    mod := ⟨kIn, spaces hns, ⟨mb, spaces hb, hbb⟩, limit⟩
    bs := fun _ _ z => of_hidT z
    bsz := Nat.le_of_eq (hidT_size _ _)
    funs := trivial
    frf := fun _ z => nomatch z
    hok := ok
    bare := .of_eq hg }
  refine codeAny_mono (F _ kIn (spaces hns) s1 H a _ env (hsp H script)) ?_
  intro r s2 out
  match r, out with
  | .error _, out => exact False.elim out
  | .ok .next, out => exact False.elim out
  | .ok .brk, out => exact False.elim out
  | .ok .cont, out => exact False.elim out
  | .ok (.ret u), ⟨v, H2, os, bare, un, ok2, ru, qv⟩ =>
    have qv' : v = .bl true := qv
    subst qv'
    have ru' : u = Value.bool true := ru
    subst ru'
    refine ⟨rfl, OldK.of_keep ?_, os, bare⟩
    intro b o e
    cases h : H b with
    | none => exact un.keep b o e h (fun z => nomatch z) (fun z => nomatch z)
    | some x =>
      obtain ⟨rfl, _, rfl⟩ := known h
      have later := (ok2 b _ (un.frzs b ob _ h)).1
      rw [ha] at e
      cases e
      exact later
theorem walk_top {l : PySem.W.OpenLaw} {n : Nat} {q : Program} {loose : List Str} {XP : (Str → Option Value) → Heap → Prop} {YP : World → Heap → Prop} {d : DefRec} {K : Params → PySem.W.Frag} {sp : World → Sp} (hn : l.most = some n) (hn2 : n ≤ sizeLine) (hdf : d.params.defaults = [])
    (hY : ∀ (w : World) (h : Heap), YP w h → (K w.params).In h)
    (F : ∀ (w : World) (mg : Str → Option Value) (fa : Addr) (h : Heap), (K w.params).In h → h.Ns mainGlobals mg → mg d.name = some (.ref fa) → ∀ base : Heap, (K w.params).In base → base.Ns mainGlobals mg → TopOk l.prog w (K w.params) mg base fa (sp w))
    (hsp : ∀ (w : World) (H : Hp) (a : Addr) (ns : List Int), ns.length ≤ n → SqL (K w.params) H a (ns.map V.int) → sp w [.ref a] H (fun v _ => v = .bl true) E0) :
    PySem.W.WalkO q loose XP YP l.row.toRowW d [] (fun f vs => PySem.call f vs) := by
  refine Att.attach_call hn hdf ?_
  intro w s0 s1 mg mb fa o pm cd doc a vs ns G Y ho hd hcd hmg hobj hints hlen hg
  exact top_call (hY w _ Y) G.T.g G.T.b G.T.builtins G.T.nolimit hg hobj hints (Nat.le_trans hlen hn2) (F w mg fa _ (hY w _ Y) G.T.g hmg) fun H hS => hsp w H a ns hlen hS
theorem orM {A B : TT} {t u r : TS} {D : Ends} {σ : L2.St} {H : Hp} (h : Ans A σ H false) (hb : tSeq (tIfS B t u) r D σ H) : tSeq (tIfS (tOr A B) t u) r D σ H := h _ (iteF hb)
theorem neM (s : Str) : (!decide (V.str s = V.str s)) = false := by
  rw [decide_eq_true rfl]
  rfl
theorem nbM (b : Bool) : (!decide (V.bl b = V.bl b)) = false := by
  rw [decide_eq_true rfl]
  rfl
theorem nvM {d : PyData} (e : PyData.eqv d d = true) : (!PyData.eqv d d) = false := by
  rw [e]
  rfl
theorem ansF {t : TT} {σ : L2.St} {H : Hp} {Q : Bool → Hp → Prop} (h : Ans t σ H false) (q : Q false H) : t σ H Q := h _ q
theorem orA {A B : TT} {σ : L2.St} {H : Hp} {Q : Bool → Hp → Prop} (h : Ans A σ H false) (q : B σ H Q) : tOr A B σ H Q := h _ (iteF q)
/-! ### situations -/
/-- xs[i] read before it is stored anew -/
def rGetL (K : PySem.W.Frag) : R2 := fun x y H Q => ∃ p xs i v, x = .ref p ∧ y = .int i ∧ 0 ≤ i ∧ SqL K H p xs ∧ atI xs i = some v ∧ Q v H
theorem get_list {X : Cx} : PGet X (rGetL X.K) := by
  intro pins s σ H x y v u Q I rx ry h
  obtain ⟨p, xs, i, z, rfl, rfl, h0, hq, he, q⟩ := h
  cases rx
  obtain ⟨t, rfl⟩ := ry
  obtain ⟨its, r, pl, hz⟩ := I.list hq
  obtain ⟨j, h1, h2, h3, h4, h5⟩ := atI_get he
  obtain ⟨w, ew, rw'⟩ := r.get h2
  have hl := r.length
  have hn := line63
  have hj : i.toNat = j := by
    rw [seqIndex_of h0 h5] at h1
    exact Option.some.inj h1
  exact wpAny_getItem_list pl.isList h0 (by omega) (by rw [hj]; simpa using ew) ⟨z, H, I, rw', q⟩
theorem getL {X : Cx} (K : PySem.W.Frag) (h : X.K = K := by rfl) : PGet X (rGetL K) := h ▸ get_list
/-- a situation: a pair of a number and a list of numbers -/
def Sit (K : PySem.W.Frag) (H : Hp) (v : V) (s : Int) (ns : List Int) : Prop := ∃ a ca, v = .ref a ∧ SqT K H a [.int s, .ref ca] ∧ SqL K H ca (ns.map V.int)
theorem Same.sit {K : PySem.W.Frag} {H H' : Hp} (e : Same H H') {v : V} {s : Int} {ns : List Int} (h : Sit K H v s ns) : Sit K H' v s ns := by
  obtain ⟨a, ca, e1, h1, h2⟩ := h
  exact ⟨a, ca, e1, Same.seqT e h1, e.seq h2⟩
def sitD (s : Int) (ns : List Int) : PyData := .tuple [.int s, .list (ns.map PyData.int)]
theorem sit_dp {K : PySem.W.Frag} {H : Hp} {v : V} {s : Int} {ns : List Int} (h : Sit K H v s ns) : Dp K H v (sitD s ns) := by
  obtain ⟨a, ca, rfl, h1, h2⟩ := h
  exact .tup h1 (.cons (.int _) (.cons (.lst h2 (dpa_ints ns)) .nil))
theorem dpa_intsE {K : PySem.W.Frag} {H : Hp} : ∀ {ns : List Int} {vs : List V}, DpAll K H vs (ns.map PyData.int) → vs = ns.map V.int
  | [], _, h => dpa_nil h
  | n :: ns, vs, h => by
    obtain ⟨v, r, rfl, h1, h2⟩ := dpa_cons h
    rw [dp_int h1, dpa_intsE h2]
    rfl
theorem dp_sit {K : PySem.W.Frag} {H : Hp} {v : V} {s : Int} {ns : List Int} (h : Dp K H v (sitD s ns)) : Sit K H v s ns := by
  obtain ⟨a, xs, rfl, h1, h2⟩ := dp_tup h
  obtain ⟨v1, r1, rfl, d1, h2⟩ := dpa_cons h2
  obtain ⟨v2, r2, rfl, d2, h2⟩ := dpa_cons h2
  obtain rfl := dpa_nil h2
  obtain ⟨ca, cxs, rfl, h3, h4⟩ := dp_lst d2
  rw [dp_int d1] at h1
  rw [dpa_intsE h4] at h3
  exact ⟨a, ca, rfl, h1, h3⟩
/-- at least as many everywhere -/
def geAll : List Int → List Int → Bool
  | m :: ms, n :: ns => decide (n ≤ m) && geAll ms ns
  | _, _ => true
theorem geAll_refl : ∀ ms : List Int, geAll ms ms = true
  | [] => rfl
  | m :: ms => by
    show (decide (m ≤ m) && geAll ms ms) = true
    rw [decide_eq_true (Int.le_refl m), geAll_refl ms]
    rfl
theorem geAll_take {ms ns : List Int} {m n : Int} : ∀ {i : Nat}, ms[i]? = some m → ns[i]? = some n → geAll (ms.take (i + 1)) (ns.take (i + 1)) = (geAll (ms.take i) (ns.take i) && decide (n ≤ m)) := by
  induction ms generalizing ns with
  | nil => intro i h; simp at h
  | cons a ms ih =>
    intro i h1 h2
    cases ns with
    | nil => simp at h2
    | cons b ns =>
      cases i with
      | zero =>
        cases h1
        cases h2
        show (decide (n ≤ m) && geAll (ms.take 0) (ns.take 0)) = (true && _)
        rw [List.take_zero, List.take_zero]
        show (decide (n ≤ m) && true) = _
        rw [Bool.and_true, Bool.true_and]
      | succ i =>
        show (decide (b ≤ a) && geAll (ms.take (i + 1)) (ns.take (i + 1))) = ((decide (b ≤ a) && geAll (ms.take i) (ns.take i)) && decide (n ≤ m))
        rw [ih h1 h2, Bool.and_assoc]
theorem geAll_false {ms ns : List Int} : ∀ {i : Nat}, geAll (ms.take i) (ns.take i) = false → geAll ms ns = false := by
  induction ms generalizing ns with
  | nil => intro i h; rw [List.take_nil] at h; cases h
  | cons a ms ih =>
    intro i h
    cases ns with
    | nil => rw [List.take_nil] at h; cases i <;> cases h
    | cons b ns =>
      cases i with
      | zero => cases h
      | succ i =>
        have h' : (decide (b ≤ a) && geAll (ms.take i) (ns.take i)) = false := h
        show (decide (b ≤ a) && geAll ms ns) = false
        cases hb : decide (b ≤ a) with
        | false => rfl
        | true =>
          rw [hb, Bool.true_and] at h'
          rw [ih h']
          rfl
/-- the first covers the second -/
def covB (s : Int) (ms : List Int) (t : Int) (ns : List Int) : Bool := decide (s = t) && geAll ms ns
theorem covB_refl (s : Int) (ms : List Int) : covB s ms s ms = true := by
  unfold covB
  rw [decide_eq_true (show s = s from rfl), geAll_refl]
  rfl
theorem ixN_nat {n j : Nat} (hj : j < n) : ixN n (j : Int) = some j := by
  unfold ixN
  rw [if_pos (by omega), if_pos (by omega)]
  simp
theorem gd {ds : List Int} {i : Nat} (h : i < ds.length) : ds[i]? = some (ds.getD i 0) := by
  rw [List.getD_eq_getElem?_getD, List.getElem?_eq_getElem h]
  rfl
theorem gd_mem {ds : List Int} {i : Nat} (h : i < ds.length) : ds.getD i 0 ∈ ds := List.mem_of_getElem? (gd h)
theorem at_gd {ds : List Int} {i : Int} {j : Nat} (e : i = (j : Int)) (h : j < ds.length) : atI (ds.map V.int) i = some (.int (ds.getD j 0)) := by
  rw [e]
  exact atI_nat (get_map (gd h))
theorem mod_in (z : Int) {m : Int} (h : 0 < m) : 0 ≤ z % m ∧ z % m < m := ⟨Int.emod_nonneg _ (by omega), Int.emod_lt_of_pos _ h⟩
/-- the heap without B -/
def Ho (B : Addr) (H : Hp) : Hp := fun x => if x = B then none else H x
theorem ho_out {B : Addr} {H : Hp} : Same (Ho B H) H := fun b x e => by
  unfold Ho at e
  split at e
  · cases e
  · exact e
theorem ho_same {B : Addr} {H H' : Hp} (s : Same H H') : Same (Ho B H) (Ho B H') := fun b x e => by
  unfold Ho at e ⊢
  split at e
  · cases e
  · rename_i h; rw [if_neg h]; exact s _ _ e
theorem ho_mut {B : Addr} {H : Hp} {u : HO} : Same (Ho B H) (Ho B (upd H B u)) := fun b x e => by
  unfold Ho at e ⊢
  split at e
  · cases e
  · rename_i h; rw [if_neg h, upd_ne h]; exact e
theorem ho_first {B : Addr} {H : Hp} {u : HO} (nB : H B = none) : Same H (Ho B (upd H B u)) := fun b x e => by
  have h : b ≠ B := ne_of_none e nB
  show (if b = B then none else upd H B u b) = _
  rw [if_neg h, upd_ne h]
  exact e
theorem dp_newT {K : PySem.W.Frag} {H : Hp} {p : Addr} {xs : List V} {ds : List PyData} (np : H p = none) (h : DpAll K H xs ds) : Dp K (upd H p (.tup xs)) (.ref p) (.tuple ds) := .tup (st upd_same) (dpAll_mono (same_new np) h)
theorem dp_newL {K : PySem.W.Frag} {H : Hp} {p : Addr} {xs : List V} {ds : List PyData} (np : H p = none) (h : DpAll K H xs ds) : Dp K (upd H p (.lst xs)) (.ref p) (.list ds) := .lst (sq upd_same) (dpAll_mono (same_new np) h)
theorem dpo_newT {K : PySem.W.Frag} {H : Hp} {B p : Addr} {o : HO} {xs : List V} {ds : List PyData} (eB : H B = some o) (np : H p = none) (h : DpAll K (Ho B H) xs ds) : Dp K (Ho B (upd H p (.tup xs))) (.ref p) (.tuple ds) := by
  have hne : p ≠ B := fun e => by rw [e, eB] at np; cases np
  refine .tup (st ?_) (dpAll_mono (ho_same (same_new np)) h)
  show (if p = B then none else upd H p (.tup xs) p) = _
  rw [if_neg hne]
  exact upd_same
theorem dpo_newL {K : PySem.W.Frag} {H : Hp} {B p : Addr} {o : HO} {xs : List V} {ds : List PyData} (eB : H B = some o) (np : H p = none) (h : DpAll K (Ho B H) xs ds) : Dp K (Ho B (upd H p (.lst xs))) (.ref p) (.list ds) := by
  have hne : p ≠ B := fun e => by rw [e, eB] at np; cases np
  refine .lst (sq ?_) (dpAll_mono (ho_same (same_new np)) h)
  show (if p = B then none else upd H p (.lst xs) p) = _
  rw [if_neg hne]
  exact upd_same
section
variable {P : Program} {w : World} {K : PySem.W.Frag} {mg : Str → Option Value} {base : Heap}
abbrev s_law_cell : Stmt := topS 14
theorem sc_law_cell : FnScope ["script", "k"] ["script", "k"] (defScope s_law_cell) := ⟨rfl, rfl, rfl, by decide +kernel, rfl, by decide +kernel, by decide +kernel⟩
-- _law_cell slots: script=0 k=1 globals: len int
def spCellA (K : PySem.W.Frag) : Sp := fun vs H Q _ => ∃ (a : Addr) (ns : List Int) (k : Nat), vs = [.ref a, .int (k : Int)] ∧ SqL K H a (ns.map V.int) ∧ ∀ z : Int, Q (.int z) H
theorem fd_law_cell {f : Addr} {fd : FuncData} (F : Fun K "_law_cell" "_law_cell" s_law_cell f fd) (m : mg "_law_cell" = some (.ref f)) (B : Bt mg) : Fd P w K mg base "_law_cell" ["script", "k"] 1 (spCellA K) := by
  refine ⟨f, fd, F.ok sc_law_cell (fun vs H Q E h => ?_) (fun cdv A outer s H vs Q E hr h => ?_), m, F.kp, F.binds (ps := ["script", "k"]) fun _ _ _ _ _ _ us hl => match us, hl with | [_, _], _ => rfl⟩
  · obtain ⟨a, ns, k, rfl, _⟩ := h
    rfl
  obtain ⟨a, ns, k, rfl, hs, q⟩ := h
  refine ⟨_, (pss_cons (ps_if (pt_cmpR op_lt (pv 1) (pe_callB (cLen K) (by rfl) B.len PySem.boot_len (pa_cons (pv 0) pa_nil)) (nomark _))
 (pss_one (ps_ret (pe_callTy call_int1 (by rfl) B.int (by decide +kernel) (pa_cons (pe_ix (ixQ K) (pv 0) (pv 1) (fun _ _ => rfl)) pa_nil))))
 pss_nil)
 (pss_one (ps_ret pe_int))), ?_⟩
  refine ⟨_, rfl, _, rfl, a, _, rfl, .inl hs, _, _, rfl, rfl, _, rfl, ite2 (fun e => ?_) (fun e => ?_)⟩
  · have e1 := of_decide_eq_true e
    rw [List.length_map] at e1
    have e2 : k < ns.length := by omega
    refine ⟨_, rfl, _, rfl, .inl ⟨a, _, _, _, rfl, rfl, hs, atI_nat (get_map (List.getElem?_eq_getElem e2)), .inl ⟨_, rfl, q _⟩⟩⟩
  · exact q _
end
section
variable {P : Program} {w : World} {K : PySem.W.Frag} {mg : Str → Option Value} {base : Heap}
abbrev s_law_draws : Stmt := topS 15
theorem sc_law_draws : FnScope ["cell", "limits", "found", "rest", "state", "free", "limit"] ["cell", "limits"] (defScope s_law_draws) := ⟨rfl, rfl, rfl, by decide +kernel, rfl, by decide +kernel, by decide +kernel⟩
-- _law_draws slots: cell=0 limits=1 found=2 rest=3 state=4 free=5 limit=6 globals: abs int
def spDraws (K : PySem.W.Frag) : Sp := fun vs H Q _ => ∃ (a : Addr) (c : Int) (ms : List Int), vs = [.int c, .ref a] ∧ SqL K H a (ms.map V.int) ∧ (∀ m ∈ ms, 0 < m ∧ m < 1073741824) ∧ ms.length ≤ 1000 ∧
  ∀ H' p ds, Same H H' → H p = none → H' p = some (.lst (ds.map V.int)) → DOk ds ms → Q (.ref p) H'
/-- the loop's word -/
def DrI (H : Hp) (a o : Addr) (c : Int) (fr : Bool) (ms : List Int) (i : Nat) (σ' : L2.St) (H' : Hp) : Prop := ∃ (r s0 : Int) (y : Option V) (ds : List Int), σ' = [some (.int c), some (.ref a), some (.ref o), some (.int r), some (.int s0), some (.bl fr), y] ∧
    0 ≤ s0 ∧ s0 < 2147483647 ∧ Same H H' ∧ H' o = some (.lst (ds.map V.int)) ∧ DOk ds (ms.take i)
theorem fd_law_draws {f : Addr} {fd : FuncData} (F : Fun K "_law_draws" "_law_draws" s_law_draws f fd) (m : mg "_law_draws" = some (.ref f)) (B : Bt mg) : Fd P w K mg base "_law_draws" ["cell", "limits"] 1 (spDraws K) := by
  refine ⟨f, fd, F.ok sc_law_draws (fun vs H Q E h => ?_) (fun cdv A outer s H vs Q E hr h => ?_), m, F.kp, F.binds (ps := ["cell", "limits"]) fun _ _ _ _ _ _ us hl => match us, hl with | [_, _], _ => rfl⟩
  · obtain ⟨a, c, ms, rfl, _⟩ := h
    rfl
  obtain ⟨a, c, ms, rfl, hs, hm, hl, q⟩ := h
  refine ⟨_, (pss_cons (ps_set (i := 2) sc_law_draws.nd rfl (Or.inl rfl) (pe_lst pa_nil))
 (pss_cons (ps_set (i := 3) sc_law_draws.nd rfl (Or.inl rfl) (pe_callB call_abs (by rfl) B.abs (by decide +kernel) (pa_cons (pe_callTy call_int1 (by rfl) B.int (by decide +kernel) (pa_cons (pv 0) pa_nil)) pa_nil)))
 (pss_cons (ps_set (i := 4) sc_law_draws.nd rfl (Or.inl rfl) (pe_op op_mod (pe_callTy call_int1 (by rfl) B.int (by decide +kernel) (pa_cons (pv 3) pa_nil)) pe_int))
 (C8.pss_cut (ps_set (i := 5) sc_law_draws.nd rfl (Or.inl rfl) (pe_or (pe_cmpR op_lt (pv 0) pe_int (nomark _)) (pe_one (pe_cmpR op_ge (pv 0) (pe_op op_pow pe_int pe_int) (nomark _)))))
 (pss_cons (ps_for PassesOwn.never rfl (piL K (pv 1)) (pg_name (i := 6) sc_law_draws.nd rfl (Or.inl rfl))
 (pss_one (ps_if (PW.pt (pw_and (pt_val (pv 5)) (pw_and1 (pt_cmpR op_gt (pv 3) pe_int (nomark _)))))
 (pss_cons (ps_expr (peBm K PySem.F.plainAttrs_list PySem.F.slot_list_append PySem.F.type_list_append mt_append (pv 2) (pa_cons (pe_op op_mod (pe_callTy call_int1 (by rfl) B.int (by decide +kernel) (pa_cons (pv 3) pa_nil)) (pv 6)) pa_nil)))
 (pss_one (ps_set (i := 3) sc_law_draws.nd rfl (Or.inl rfl) (pe_op op_fdiv (pv 3) (pv 6)))))
 (pss_cons (ps_set (i := 4) sc_law_draws.nd rfl (Or.inl rfl) (pe_op op_mod (pe_callTy call_int1 (by rfl) B.int (by decide +kernel) (pa_cons (pe_op op_add (pe_op op_mul (pv 4) pe_int) pe_int) pa_nil)) pe_int))
 (pss_cons (ps_set (i := 4) sc_law_draws.nd rfl (Or.inl rfl) (pe_op op_mod (pe_callTy call_int1 (by rfl) B.int (by decide +kernel) (pa_cons (pe_op op_add (pe_op op_mul (pv 4) pe_int) pe_int) pa_nil)) pe_int))
 (pss_one (ps_expr (peBm K PySem.F.plainAttrs_list PySem.F.slot_list_append PySem.F.type_list_append mt_append (pv 2) (pa_cons (pe_op op_mod (pe_callTy call_int1 (by rfl) B.int (by decide +kernel) (pa_cons (pe_op op_fdiv (pv 4) pe_int) pa_nil)) (pv 6)) pa_nil)))))))))
 (pss_one (ps_ret (pv 2)))))))), ?_⟩
  refine ⟨sz (by decide), fun o no => ?_⟩
  refine ⟨_, rfl, .inl ⟨_, rfl, _, rfl, ?_⟩⟩
  refine ⟨_, rfl, .inl ⟨_, rfl, _, _, rfl, rfl, (by show (0 : Int) < 2147483647; decide), ?_⟩⟩
  generalize e1 : (if c < 0 then -c else c) = r0
  refine ⟨fun σ' H' => ∃ (fr : Bool), σ' = [some (.int c), some (.ref a), some (.ref o), some (.int r0), some (.int (r0 % 2147483647)), some (.bl fr), none] ∧ H' = upd H o (.lst []), ?_, fun σ' H' => ?_⟩
  · refine ⟨_, rfl, _, _, rfl, rfl, _, rfl, ite2 (fun e => ⟨true, rfl, rfl⟩) (fun e => ?_)⟩
    refine ⟨_, rfl, _, _, rfl, rfl, ⟨by decide, by decide, by decide⟩, _, _, rfl, rfl, ⟨_, rfl, rfl⟩⟩
  rintro ⟨fr, rfl, rfl⟩
  refine ⟨_, rfl, a, rfl, ⟨_, (same_new no).seq hs⟩, for_list (xs := ms.map V.int) (DrI H a o c fr ms) ?_ ?_ ?_ ?_⟩
  · exact ⟨r0, _, none, [], rfl, Int.emod_nonneg _ (by decide), Int.emod_lt_of_pos _ (by decide), same_new no, upd_same, trivial⟩
  · rintro i σ' H' _ ⟨r, s0, y, ds, rfl, _, _, sm, _⟩
    exact sm.seq hs
  · rintro i x σ' H' hx ⟨r, s0, y, ds, rfl, h0, h1, sm, eo, hd⟩
    obtain ⟨lim, hlim, rfl⟩ := get_map_inv hx
    have hb := hm lim (List.mem_of_getElem? hlim)
    have hi2 : i < ms.length := (List.getElem?_eq_some_iff.mp hlim).1
    have hdl := hd.len
    rw [List.length_take] at hdl
    have dl : (ds.map V.int).length < sizeLine := szl (by rw [List.length_map]; omega)
    have fin : ∀ (r1 s1 d : Int), 0 ≤ s1 → s1 < 2147483647 → 0 ≤ d → d < lim → DrI H a o c fr ms (i + 1) [some (V.int c), some (.ref a), some (.ref o), some (.int r1), some (.int s1), some (.bl fr), some (.int lim)] (upd H' o (.lst (ds.map V.int ++ [.int d]))) := fun r1 s1 d a1 a2 a3 a4 =>
      ⟨r1, s1, _, ds ++ [d], rfl, a1, a2, Same.mut sm no, by rw [upd_same, List.map_append]; rfl, by rw [take_snoc hlim]; exact hd.snoc a3 a4⟩
    have no1 : ∀ z : Int, 0 ≤ z % lim ∧ z % lim < lim := fun z => ⟨Int.emod_nonneg _ (by omega), Int.emod_lt_of_pos _ (by omega)⟩
    have els : ∀ (r1 s1 : Int), True := fun _ _ => trivial
    refine ⟨_, rfl, fr, rfl, ?_⟩
    cases fr with
    | true =>
      refine iteT ⟨_, rfl, _, _, rfl, rfl, _, rfl, ite2 (fun e => ?_) (fun e => ?_)⟩
      · refine ⟨_, rfl, .inl ⟨rfl, _, sq eo⟩, _, rfl, .inl ⟨_, rfl, _, rfl, _, _, rfl, rfl, hb.1, o, _, _, rfl, rfl, eo, dl, ?_⟩⟩
        refine ⟨_, rfl, _, rfl, _, _, rfl, rfl, ⟨hb.1, hb.2⟩, ?_⟩
        exact fin _ _ _ h0 h1 (no1 r).1 (no1 r).2
      · refine ⟨_, rfl, _, _, rfl, rfl, .inl ⟨by omega, by omega⟩, _, _, rfl, rfl, .inl ⟨_, rfl, _, _, rfl, rfl, (by show (0 : Int) < 2147483647; decide), ?_⟩⟩
        have b1 := Int.emod_nonneg (s0 * 48271 + 11) (show (2147483647 : Int) ≠ 0 by decide)
        have b2 := Int.emod_lt_of_pos (s0 * 48271 + 11) (show (0 : Int) < 2147483647 by decide)
        refine ⟨_, rfl, _, _, rfl, rfl, .inl ⟨by omega, by omega⟩, _, _, rfl, rfl, .inl ⟨_, rfl, _, _, rfl, rfl, (by show (0 : Int) < 2147483647; decide), ?_⟩⟩
        refine ⟨_, rfl, .inl ⟨rfl, _, sq eo⟩, _, rfl, _, _, rfl, rfl, ⟨by decide, by decide⟩, .inl ⟨_, rfl, _, rfl, _, _, rfl, rfl, hb.1, o, _, _, rfl, rfl, eo, dl, ?_⟩⟩
        exact fin _ _ _ (Int.emod_nonneg _ (by decide)) (Int.emod_lt_of_pos _ (by decide)) (no1 _).1 (no1 _).2
    | false =>
      refine iteF ?_
      refine ⟨_, rfl, _, _, rfl, rfl, .inl ⟨by omega, by omega⟩, _, _, rfl, rfl, .inl ⟨_, rfl, _, _, rfl, rfl, (by show (0 : Int) < 2147483647; decide), ?_⟩⟩
      have b1 := Int.emod_nonneg (s0 * 48271 + 11) (show (2147483647 : Int) ≠ 0 by decide)
      have b2 := Int.emod_lt_of_pos (s0 * 48271 + 11) (show (0 : Int) < 2147483647 by decide)
      refine ⟨_, rfl, _, _, rfl, rfl, .inl ⟨by omega, by omega⟩, _, _, rfl, rfl, .inl ⟨_, rfl, _, _, rfl, rfl, (by show (0 : Int) < 2147483647; decide), ?_⟩⟩
      refine ⟨_, rfl, .inl ⟨rfl, _, sq eo⟩, _, rfl, _, _, rfl, rfl, ⟨by decide, by decide⟩, .inl ⟨_, rfl, _, rfl, _, _, rfl, rfl, hb.1, o, _, _, rfl, rfl, eo, dl, ?_⟩⟩
      exact fin _ _ _ (Int.emod_nonneg _ (by decide)) (Int.emod_lt_of_pos _ (by decide)) (no1 _).1 (no1 _).2
  · rintro σ' H' ⟨r, s0, y, ds, rfl, h0, h1, sm, eo, hd⟩
    rw [List.length_map, List.take_length] at hd
    exact ⟨_, rfl, q H' o ds sm no eo hd⟩
end
/-! ### machines -/
abbrev nV (n : Nat) : V := .int (n : Int)
abbrev nD (n : Nat) : PyData := .int (n : Int)
structure MvT where
  st : Nat
  pl : Nat
  ns : Nat
  np : Nat
  sd : Option Nat
  sh : List (Nat × Nat)
def sdV : Option Nat → V
  | none => .non
  | some d => nV d
def sdD : Option Nat → PyData
  | none => .none
  | some d => nD d
def shD (p : Nat × Nat) : PyData := .tuple [nD p.1, nD p.2]
def MvT.data (m : MvT) : PyData := .tuple [nD m.st, nD m.pl, nD m.ns, nD m.np, sdD m.sd, .list (m.sh.map shD)]
structure MT where
  states : Nat
  places : Nat
  sst : Nat
  cnts : List Int
  crew : Nat
  moves : List MvT
def MT.data (M : MT) : PyData := .tuple [nD M.states, nD M.places, sitD M.sst M.cnts, nD M.crew, .list (M.moves.map MvT.data)]
structure ShOk (sh : List (Nat × Nat)) (P : Nat) : Prop where
  asc : (sh.map (·.1)).Pairwise (· < ·)
  fst : ∀ p ∈ sh, p.1 < P
  snd : ∀ p ∈ sh, p.2 < P
  sep : ∀ p ∈ sh, ∀ q ∈ sh, p.2 ≠ q.1
structure MvT.Fit (m : MvT) (S P : Nat) : Prop where
  st : m.st < S
  pl : m.pl < P
  ns : m.ns < S
  np : m.np < P
  sd : ∀ d, m.sd = some d → d < P
  sh : ShOk m.sh P
structure MT.Ok (M : MT) : Prop where
  s1 : 1 ≤ M.states
  s2 : M.states ≤ 4
  p1 : 1 ≤ M.places
  p2 : M.places ≤ 6
  ss : M.sst < M.states
  cl : M.cnts.length = M.places
  cb : ∀ c ∈ M.cnts, 0 ≤ c ∧ c < 3
  cr : M.crew < M.places
  ml : M.moves.length ≤ 12
  fit : ∀ m ∈ M.moves, m.Fit M.states M.places
  nd : M.moves.Nodup
def shiftAll (sh : List (Nat × Nat)) (cs : List Int) : List Int := sh.foldl (fun cs p => (cs.set p.2 (cs.getD p.2 0 + cs.getD p.1 0)).set p.1 0) cs
def bump (cs : List Int) (k : Nat) (z : Int) : List Int := cs.set k (cs.getD k 0 + z)
def MvT.mid (m : MvT) (cs : List Int) : List Int := shiftAll m.sh (bump cs m.pl (-1))
def MvT.aft (m : MvT) (cs : List Int) : List Int := match m.sd with
  | none => bump (m.mid cs) m.np 1
  | some d => bump (bump (m.mid cs) m.np 1) d 1
def MvT.can (m : MvT) (s : Int) (cs : List Int) : Bool := decide ((m.st : Int) = s) && decide (0 < cs.getD m.pl 0)
def canAt (ms : List MvT) (s : Int) (cs : List Int) (k : Nat) : Bool := match ms[k]? with
  | some m => m.can s cs
  | none => false
def canL (ms : List MvT) (s : Int) (cs : List Int) : List Nat := (List.range ms.length).filter (canAt ms s cs)
theorem shiftAll_len : ∀ (sh : List (Nat × Nat)) (cs : List Int), (shiftAll sh cs).length = cs.length
  | [], _ => rfl
  | p :: r, cs => by
    show (shiftAll r _).length = _
    rw [shiftAll_len r, List.length_set, List.length_set]
theorem bump_len (cs : List Int) (k : Nat) (z : Int) : (bump cs k z).length = cs.length := List.length_set
theorem mid_len (m : MvT) (cs : List Int) : (m.mid cs).length = cs.length := by
  unfold MvT.mid
  rw [shiftAll_len, bump_len]
theorem aft_len (m : MvT) (cs : List Int) : (m.aft cs).length = cs.length := by
  unfold MvT.aft
  split
  · rw [bump_len, mid_len]
  · rw [bump_len, bump_len, mid_len]
theorem shiftAll_snoc (sh : List (Nat × Nat)) (p : Nat × Nat) (cs : List Int) : shiftAll (sh ++ [p]) cs = ((shiftAll sh cs).set p.2 ((shiftAll sh cs).getD p.2 0 + (shiftAll sh cs).getD p.1 0)).set p.1 0 := by
  unfold shiftAll
  rw [List.foldl_append]
  rfl
theorem filt_yes {f : Nat → Bool} {i : Nat} (h : f i = true) : (List.range (i + 1)).filter f = (List.range i).filter f ++ [i] := by
  rw [List.range_succ, List.filter_append, List.filter_cons, if_pos h]
  rfl
theorem filt_no {f : Nat → Bool} {i : Nat} (h : f i = false) : (List.range (i + 1)).filter f = (List.range i).filter f := by
  rw [List.range_succ, List.filter_append, List.filter_cons, if_neg (by rw [h]; decide)]
  show _ ++ [] = _
  rw [List.append_nil]
theorem filt_len (n : Nat) (f : Nat → Bool) : ((List.range n).filter f).length ≤ n := by
  have h := List.length_filter_le f (List.range n)
  rw [List.length_range] at h
  exact h
theorem mem_canL {ms : List MvT} {s : Int} {cs : List Int} {k : Nat} : k ∈ canL ms s cs ↔ ∃ m, ms[k]? = some m ∧ m.can s cs = true := by
  unfold canL
  rw [List.mem_filter, List.mem_range]
  unfold canAt
  constructor
  · rintro ⟨h1, h2⟩
    rw [List.getElem?_eq_getElem h1] at h2
    exact ⟨_, List.getElem?_eq_getElem h1, h2⟩
  · rintro ⟨m, h1, h2⟩
    rw [h1]
    exact ⟨(List.getElem?_eq_some_iff.mp h1).1, h2⟩
section
variable {K : PySem.W.Frag} {H : Hp}
theorem dp_sd {v : V} {o : Option Nat} (h : Dp K H v (sdD o)) : v = sdV o := by
  cases o with
  | none => cases h; rfl
  | some d => exact dp_int h
theorem sd_dp (o : Option Nat) : Dp K H (sdV o) (sdD o) := by
  cases o with
  | none => exact .non
  | some d => exact .int _
theorem dp_sh {v : V} {p : Nat × Nat} (h : Dp K H v (shD p)) : ∃ a, v = .ref a ∧ SqT K H a [nV p.1, nV p.2] := by
  obtain ⟨a, xs, rfl, hs, h⟩ := dp_tup h
  obtain ⟨v1, r1, rfl, d1, h⟩ := dpa_cons h
  obtain ⟨v2, r2, rfl, d2, h⟩ := dpa_cons h
  rw [dp_int d1, dp_int d2, dpa_nil h] at hs
  exact ⟨a, rfl, hs⟩
theorem dp_mv {v : V} {m : MvT} (h : Dp K H v m.data) : ∃ a sa xs, v = .ref a ∧ SqT K H a [nV m.st, nV m.pl, nV m.ns, nV m.np, sdV m.sd, .ref sa] ∧ SqL K H sa xs ∧ DpAll K H xs (m.sh.map shD) := by
  obtain ⟨a, xs, rfl, hs, h⟩ := dp_tup h
  obtain ⟨v1, r1, rfl, d1, h⟩ := dpa_cons h
  obtain ⟨v2, r2, rfl, d2, h⟩ := dpa_cons h
  obtain ⟨v3, r3, rfl, d3, h⟩ := dpa_cons h
  obtain ⟨v4, r4, rfl, d4, h⟩ := dpa_cons h
  obtain ⟨v5, r5, rfl, d5, h⟩ := dpa_cons h
  obtain ⟨v6, r6, rfl, d6, h⟩ := dpa_cons h
  obtain rfl := dpa_nil h
  obtain ⟨sa, ys, rfl, h1, h2⟩ := dp_lst d6
  rw [dp_int d1, dp_int d2, dp_int d3, dp_int d4, dp_sd d5] at hs
  exact ⟨a, sa, ys, rfl, hs, h1, h2⟩
theorem dp_mt {v : V} {M : MT} (h : Dp K H v M.data) : ∃ a sv ma xs, v = .ref a ∧ SqT K H a [nV M.states, nV M.places, sv, nV M.crew, .ref ma] ∧ Sit K H sv M.sst M.cnts ∧ SqL K H ma xs ∧ DpAll K H xs (M.moves.map MvT.data) := by
  obtain ⟨a, xs, rfl, hs, h⟩ := dp_tup h
  obtain ⟨v1, r1, rfl, d1, h⟩ := dpa_cons h
  obtain ⟨v2, r2, rfl, d2, h⟩ := dpa_cons h
  obtain ⟨v3, r3, rfl, d3, h⟩ := dpa_cons h
  obtain ⟨v4, r4, rfl, d4, h⟩ := dpa_cons h
  obtain ⟨v5, r5, rfl, d5, h⟩ := dpa_cons h
  obtain rfl := dpa_nil h
  obtain ⟨ma, ys, rfl, h1, h2⟩ := dp_lst d5
  rw [dp_int d1, dp_int d2, dp_int d4] at hs
  exact ⟨a, v3, ma, ys, rfl, hs, dp_sit d3, h1, h2⟩
theorem dpa_map_at {α : Type} {f : α → PyData} {xs : List V} {as : List α} (h : DpAll K H xs (as.map f)) {i : Nat} {x : V} (hx : xs[i]? = some x) : ∃ a, as[i]? = some a ∧ Dp K H x (f a) := by
  obtain ⟨d, hd, dx⟩ := dpa_at h hx
  obtain ⟨a, ha, rfl⟩ : ∃ a, as[i]? = some a ∧ d = f a := by
    rw [List.getElem?_map] at hd
    cases e : as[i]? with
    | none => rw [e] at hd; cases hd
    | some a => rw [e] at hd; exact ⟨a, rfl, (Option.some.inj hd).symm⟩
  exact ⟨a, ha, dx⟩
theorem dpa_map_at' {α : Type} {f : α → PyData} {xs : List V} {as : List α} (h : DpAll K H xs (as.map f)) {i : Nat} {a : α} (ha : as[i]? = some a) : ∃ x, xs[i]? = some x ∧ Dp K H x (f a) := by
  obtain ⟨v, hv, dv⟩ := dpa_at' h (i := i) (d := f a) (by rw [List.getElem?_map, ha]; rfl)
  exact ⟨v, hv, dv⟩
theorem dpa_map_len {α : Type} {f : α → PyData} {xs : List V} {as : List α} (h : DpAll K H xs (as.map f)) : xs.length = as.length := by
  have := dpa_len h
  rw [List.length_map] at this
  exact this
end
theorem at_n {xs : List V} {i : Int} {j : Nat} {v : V} (e : i = (j : Int)) (h : xs[j]? = some v) : atI xs i = some v := by
  rw [e]
  exact atI_nat h
theorem hu65 {A : Around} {k : Nat} (hr : Room k A) : A.units + 65 < cLine := by
  have := hr.un
  omega
theorem opNotInD {X : Cx} (K : PySem.W.Frag) (hu : X.A.units + 65 < cLine) (h : X.K = K := by rfl) : OpR X (compareOp .NotIn) (rNotInD K) := h ▸ op_notInD hu
theorem opInD {X : Cx} (K : PySem.W.Frag) (hu : X.A.units + 65 < cLine) (h : X.K = K := by rfl) : OpR X (compareOp .In) (rInD K) := h ▸ op_inD hu
section
variable {P : Program} {w : World} {K : PySem.W.Frag} {mg : Str → Option Value} {base : Heap}
abbrev s_move_at : Stmt := topS 11
theorem sc_move_at : FnScope ["machine", "index"] ["machine", "index"] (defScope s_move_at) := ⟨rfl, rfl, rfl, by decide +kernel, rfl, by decide +kernel, by decide +kernel⟩
-- move_at slots: machine=0 index=1 globals: len OutOfRange
def spMvAt (K : PySem.W.Frag) : Sp := fun vs H Q _ => ∃ (v : V) (M : MT) (i : Nat) (m : MvT), vs = [v, nV i] ∧ Dp K H v M.data ∧ M.moves[i]? = some m ∧ ∀ x, Dp K H x m.data → Q x H
theorem fd_move_at {f : Addr} {fd : FuncData} (F : Fun K "move_at" "move_at" s_move_at f fd) (m : mg "move_at" = some (.ref f)) (B : Bt mg) : Fd P w K mg base "move_at" ["machine", "index"] 1 (spMvAt K) := by
  refine ⟨f, fd, F.ok sc_move_at (fun vs H Q E h => ?_) (fun cdv A outer s H vs Q E hr h => ?_), m, F.kp, F.binds (ps := ["machine", "index"]) fun _ _ _ _ _ _ us hl => match us, hl with | [_, _], _ => rfl⟩
  · obtain ⟨v, M, i, m, rfl, _⟩ := h
    rfl
  obtain ⟨v, M, i, mv, rfl, hd, hm, q⟩ := h
  obtain ⟨a, sv, ma, xs, rfl, ha, _, hma, hxs⟩ := dp_mt hd
  obtain ⟨x, hx, dx⟩ := dpa_map_at' hxs hm
  have hi : i < xs.length := (List.getElem?_eq_some_iff.mp hx).1
  refine ⟨_, (pss_cons (ps_if (pt_not (pt_chain op_le op_lt pe_int (pv 1) (pe_callB (cLen K) (by rfl) B.len PySem.boot_len (pa_cons (pe_ix (ixT K) (pv 0) pe_int (fun _ _ => rfl)) pa_nil))))
 (pss_one ps_never)
 pss_nil)
 (pss_one (ps_ret (pe_ix (ixL K) (pe_ix (ixT K) (pv 0) pe_int (fun _ _ => rfl)) (pv 1) (fun _ _ => rfl))))), ?_⟩
  refine ⟨_, rfl, _, _, rfl, rfl, _, rfl, ?_⟩
  rw [if_pos (decide_eq_true (show (0 : Int) ≤ (i : Int) by omega))]
  refine ⟨_, rfl, _, _, _, _, rfl, rfl, ha, atI_nat (j := 4) rfl, ma, _, rfl, .inl hma, _, _, rfl, rfl, _, rfl, ?_⟩
  rw [decide_eq_true (show (i : Int) < (xs.length : Int) by omega)]
  refine iteF ?_
  exact ⟨_, rfl, _, _, _, _, rfl, rfl, ha, atI_nat (j := 4) rfl, _, rfl, _, _, _, _, rfl, rfl, hma, atI_nat hx, q _ dx⟩
abbrev s_can_take : Stmt := topS 12
theorem sc_can_take : FnScope ["situation", "move"] ["situation", "move"] (defScope s_can_take) := ⟨rfl, rfl, rfl, by decide +kernel, rfl, by decide +kernel, by decide +kernel⟩
-- can_take slots: situation=0 move=1 globals: 
def spCan (K : PySem.W.Frag) : Sp := fun vs H Q _ => ∃ (x y : V) (s : Int) (cs : List Int) (m : MvT), vs = [x, y] ∧ Sit K H x s cs ∧ Dp K H y m.data ∧ m.pl < cs.length ∧ Q (.bl (m.can s cs)) H
theorem fd_can_take {f : Addr} {fd : FuncData} (F : Fun K "can_take" "can_take" s_can_take f fd) (m : mg "can_take" = some (.ref f)) (B : Bt mg) : Fd P w K mg base "can_take" ["situation", "move"] 1 (spCan K) := by
  refine ⟨f, fd, F.ok sc_can_take (fun vs H Q E h => ?_) (fun cdv A outer s H vs Q E hr h => ?_), m, F.kp, F.binds (ps := ["situation", "move"]) fun _ _ _ _ _ _ us hl => match us, hl with | [_, _], _ => rfl⟩
  · obtain ⟨x, y, s, cs, m, rfl, _⟩ := h
    rfl
  obtain ⟨x, y, s, cs, mv, rfl, ⟨a, ca, rfl, ha, hca⟩, hd, hp, q⟩ := h
  obtain ⟨b, sa, xs, rfl, hb, _⟩ := dp_mv hd
  refine ⟨_, (pss_one (ps_ret (pe_and (pe_cmpR op_eq (pe_ix (ixT K) (pv 1) pe_int (fun _ _ => rfl)) (pe_ix (ixT K) (pv 0) pe_int (fun _ _ => rfl)) (nomark _)) (pe_one (pe_cmpR op_gt (pe_ix (ixL K) (pe_ix (ixT K) (pv 0) pe_int (fun _ _ => rfl)) (pe_ix (ixT K) (pv 1) pe_int (fun _ _ => rfl)) (fun _ _ => rfl)) pe_int (nomark _)))))), ?_⟩
  refine ⟨_, rfl, _, _, _, _, rfl, rfl, hb, atI_nat (j := 0) rfl, _, rfl, _, _, _, _, rfl, rfl, ha, atI_nat (j := 0) rfl, rfl, _, rfl, ?_⟩
  have e1 : decide (V.int (mv.st : Int) = V.int s) = decide ((mv.st : Int) = s) := by
    by_cases h : (mv.st : Int) = s
    · rw [decide_eq_true h, h, decide_eq_true rfl]
    · rw [decide_eq_false h, decide_eq_false fun z => h (by cases z; rfl)]
  rw [e1]
  unfold MvT.can at q
  refine ite2 (fun e => ?_) (fun e => ?_)
  · rw [e, Bool.true_and] at q
    exact ⟨_, rfl, _, _, _, _, rfl, rfl, ha, atI_nat (j := 1) rfl, _, rfl, _, _, _, _, rfl, rfl, hb, atI_nat (j := 1) rfl, _, _, _, _, rfl, rfl, hca, at_gd rfl hp, _, _, rfl, rfl, q⟩
  · have e2 : decide ((mv.st : Int) = s) = false := by
      cases h : decide ((mv.st : Int) = s) with
      | true => exact absurd h e
      | false => rfl
    rw [e2, Bool.false_and] at q
    exact q
theorem set_int (cs : List Int) (k : Nat) (z : Int) : (cs.map V.int).set k (.int z) = (cs.set k z).map V.int := List.map_set.symm
/-- the situation after a move -/
def NewSit (H H' : Hp) (p : Addr) (s : Int) (cs : List Int) : Prop := ∃ ca, H p = none ∧ H ca = none ∧ ca ≠ p ∧ H' p = some (.tup [.int s, .ref ca]) ∧ H' ca = some (.lst (cs.map V.int))
theorem NewSit.sit {H H' : Hp} {p : Addr} {s : Int} {cs : List Int} (h : NewSit H H' p s cs) : Sit K H' (.ref p) s cs := by
  obtain ⟨ca, _, _, _, h1, h2⟩ := h
  exact ⟨p, ca, rfl, st h1, sq h2⟩
abbrev s_after : Stmt := topS 5
theorem sc_after : FnScope ["machine", "situation", "move", "taken", "_", "place", "next_state", "next_place", "started", "shifts", "counts", "first", "second"] ["machine", "situation", "move"] (defScope s_after) := ⟨rfl, rfl, rfl, by decide +kernel, rfl, by decide +kernel, by decide +kernel⟩
-- after slots: machine=0 situation=1 move=2 taken=3 _=4 place=5 next_state=6 next_place=7 started=8 shifts=9 counts=10 first=11 second=12 globals: move_at can_take NotPossible list
def spAft (K : PySem.W.Frag) : Sp := fun vs H Q _ => ∃ (v x : V) (M : MT) (i : Nat) (m : MvT) (s : Int) (cs : List Int), vs = [v, x, nV i] ∧ Dp K H v M.data ∧ Sit K H x s cs ∧ M.moves[i]? = some m ∧ m.can s cs = true ∧ m.Fit M.states cs.length ∧
  ∀ H' p, Same H H' → NewSit H H' p m.ns (m.aft cs) → Q (.ref p) H'
theorem fd_after {f : Addr} {fd : FuncData} (F : Fun K "after" "after" s_after f fd) (m : mg "after" = some (.ref f)) (B : Bt mg) (D_move_at : Fd P w K mg base "move_at" ["machine", "index"] 1 (spMvAt K)) (D_can_take : Fd P w K mg base "can_take" ["situation", "move"] 1 (spCan K)) : Fd P w K mg base "after" ["machine", "situation", "move"] 2 (spAft K) := by
  refine ⟨f, fd, F.ok sc_after (fun vs H Q E h => ?_) (fun cdv A outer s H vs Q E hr h => ?_), m, F.kp, F.binds (ps := ["machine", "situation", "move"]) fun _ _ _ _ _ _ us hl => match us, hl with | [_, _, _], _ => rfl⟩
  · obtain ⟨v, x, M, i, m, s, cs, rfl, _⟩ := h
    rfl
  obtain ⟨v, x, M, i, mv, s, cs, rfl, hd, hx, hm, hcan, hf, q⟩ := h
  refine ⟨_, (pss_cons (ps_set (i := 3) sc_after.nd rfl (Or.inl rfl) (pe_fn D_move_at (hr.mono (by decide)) rfl (pa_cons (pv 0) (pa_cons (pv 2) pa_nil))))
 (pss_cons (ps_if (pt_not (pt_val (pe_fn D_can_take (hr.mono (by decide)) rfl (pa_cons (pv 1) (pa_cons (pv 3) pa_nil)))))
 (pss_one ps_never)
 pss_nil)
 (pss_cons (ps_asg (pv 3) (pg_tup rfl (pgs_cons (pg_name (i := 4) sc_after.nd rfl (Or.inl rfl)) (pgs_cons (pg_name (i := 5) sc_after.nd rfl (Or.inl rfl)) (pgs_cons (pg_name (i := 6) sc_after.nd rfl (Or.inl rfl)) (pgs_cons (pg_name (i := 7) sc_after.nd rfl (Or.inl rfl)) (pgs_cons (pg_name (i := 8) sc_after.nd rfl (Or.inl rfl)) (pgs_cons (pg_name (i := 9) sc_after.nd rfl (Or.inl rfl)) pgs_nil))))))))
 (pss_cons (ps_set (i := 10) sc_after.nd rfl (Or.inl rfl) (pe_callTy (cList K) (by rfl) B.list (by decide +kernel) (pa_cons (pe_ix (ixT K) (pv 1) pe_int (fun _ _ => rfl)) pa_nil)))
 (pss_cons (ps_augS (pv 10) (pv 5) (getL K) pe_int ip_sub set_list)
 (pss_cons (ps_for PassesOwn.never rfl (piL K (pv 9)) (pg_tup rfl (pgs_cons (pg_name (i := 11) sc_after.nd rfl (Or.inl rfl)) (pgs_cons (pg_name (i := 12) sc_after.nd rfl (Or.inl rfl)) pgs_nil)))
 (pss_cons (ps_augS (pv 10) (pv 12) (getL K) (pe_ix (ixL K) (pv 10) (pv 11) (fun _ _ => rfl)) ip_add set_list)
 (pss_one (ps_asg pe_int (pg_sub (pv 10) (pv 11) set_list)))))
 (pss_cons (ps_augS (pv 10) (pv 7) (getL K) pe_int ip_add set_list)
 (C8.pss_cut (ps_if (pt_cmpR op_notN (pv 8) pe_non (nomark _))
 (pss_one (ps_augS (pv 10) (pv 8) (getL K) pe_int ip_add set_list))
 pss_nil)
 (pss_one (ps_ret (pe_tup (pa_cons (pv 6) (pa_cons (pv 10) pa_nil))))))))))))), ?_⟩
  refine ⟨_, rfl, _, rfl, v, M, i, mv, rfl, hd, hm, fun y dy => ?_⟩
  dsimp only [gName]
  refine ⟨_, rfl, _, rfl, _, _, s, cs, mv, rfl, hx, dy, hf.pl, _, rfl, ?_⟩
  rw [hcan]
  refine iteF ?_
  obtain ⟨b, sa, xs, rfl, hb, hsa, hxs⟩ := dp_mv dy
  obtain ⟨a, ca, rfl, ha, hca⟩ := hx
  refine ⟨_, rfl, b, _, rfl, hb, rfl, _, _, rfl, _, _, rfl, _, _, rfl, _, _, rfl, _, _, rfl, _, _, rfl, rfl, ?_⟩
  dsimp only [gName]
  refine ⟨_, rfl, _, _, _, _, rfl, rfl, ha, atI_nat (j := 1) rfl, ca, _, rfl, .inl hca, fun l nl => ?_⟩
  dsimp only [gName]
  refine ⟨_, rfl, _, rfl, _, _, _, _, rfl, rfl, (show (0 : Int) ≤ (mv.pl : Int) by omega), sq upd_same, at_gd rfl hf.pl, _, _, rfl, rfl, _, _, _, _, rfl, rfl, upd_same, ixN_nat (by rw [List.length_map]; exact hf.pl), ?_⟩
  rw [set_int]
  have xl := dpa_map_len hxs
  refine ⟨_, rfl, sa, rfl, ⟨_, (Same.mut (same_new nl) nl).seq hsa⟩, for_list (xs := xs) (fun j σ' H' => ∃ y11 y12 : Option V, σ' = [some v, some (.ref a), some (nV i), some (.ref b), some (nV mv.st), some (nV mv.pl), some (nV mv.ns), some (nV mv.np), some (sdV mv.sd), some (.ref sa), some (.ref l), y11, y12] ∧ Same H H' ∧ H' l = some (.lst ((shiftAll (mv.sh.take j) (bump cs mv.pl (-1))).map V.int))) ⟨none, none, rfl, Same.mut (same_new nl) nl, by rw [upd_same]; rfl⟩ ?_ ?_ ?_⟩
  · rintro j σ' H' _ ⟨y11, y12, rfl, sm, _⟩
    exact sm.seq hsa
  · rintro j x σ' H' hx ⟨y11, y12, rfl, sm, el⟩
    obtain ⟨p, hp, dx⟩ := dpa_map_at hxs hx
    obtain ⟨t, rfl, ht⟩ := dp_sh dx
    have p1 := hf.sh.fst p (List.mem_of_getElem? hp)
    have p2 := hf.sh.snd p (List.mem_of_getElem? hp)
    have ln : (shiftAll (mv.sh.take j) (bump cs mv.pl (-1))).length = cs.length := by rw [shiftAll_len, bump_len]
    rw [take_snoc hp, shiftAll_snoc]
    generalize shiftAll (mv.sh.take j) (bump cs mv.pl (-1)) = c1 at el ln ⊢
    refine ⟨t, _, rfl, Same.seqT sm ht, rfl, _, _, rfl, _, _, rfl, rfl, ?_⟩
    dsimp only [gName]
    refine ⟨_, rfl, _, rfl, _, _, _, _, rfl, rfl, (show (0 : Int) ≤ (p.2 : Int) by omega), sq el, at_gd rfl (by omega), _, rfl, _, rfl, _, _, _, _, rfl, rfl, sq el, at_gd rfl (by omega), _, _, rfl, rfl, _, _, _, _, rfl, rfl, el, ixN_nat (by rw [List.length_map]; omega), ?_⟩
    rw [set_int]
    refine ⟨_, rfl, _, rfl, l, _, _, _, rfl, rfl, upd_same, ixN_nat (by rw [List.length_map, List.length_set]; omega), ?_⟩
    rw [set_int]
    exact ⟨_, _, rfl, Same.mut (Same.mut sm nl) nl, upd_same⟩
  · rintro σ' H' ⟨y11, y12, rfl, sm, el⟩
    rw [List.take_of_length_le (by omega)] at el
    have ln : (mv.mid cs).length = cs.length := mid_len mv cs
    change H' l = some (.lst ((mv.mid cs).map V.int)) at el
    refine ⟨_, rfl, _, rfl, _, _, _, _, rfl, rfl, (show (0 : Int) ≤ (mv.np : Int) by omega), sq el, at_gd rfl (by rw [ln]; exact hf.np), _, _, rfl, rfl, _, _, _, _, rfl, rfl, el, ixN_nat (by rw [List.length_map, ln]; exact hf.np), ?_⟩
    rw [set_int]
    refine ⟨fun σ' H' => σ' = [some v, some (.ref a), some (nV i), some (.ref b), some (nV mv.st), some (nV mv.pl), some (nV mv.ns), some (nV mv.np), some (sdV mv.sd), some (.ref sa), some (.ref l), y11, y12] ∧ Same H H' ∧ H' l = some (.lst ((mv.aft cs).map V.int)), ?_, ?_⟩
    · refine ⟨_, rfl, rfl, _, rfl, ?_⟩
      have hsd := hf.sd
      unfold MvT.aft
      cases esd : mv.sd with
      | none => exact iteF ⟨rfl, Same.mut sm nl, upd_same⟩
      | some d =>
        have hd := hsd d esd
        refine iteT ?_
        refine ⟨_, rfl, _, rfl, _, _, _, _, rfl, rfl, (show (0 : Int) ≤ (d : Int) by omega), sq upd_same, at_gd rfl (by rw [List.length_set, ln]; exact hd), _, _, rfl, rfl, _, _, _, _, rfl, rfl, upd_same, ixN_nat (by rw [List.length_map, List.length_set, ln]; exact hd), ?_⟩
        rw [set_int]
        exact ⟨rfl, Same.mut (Same.mut sm nl) nl, upd_same⟩
    · rintro σ' H2 ⟨rfl, sm2, el2⟩
      refine ⟨_, rfl, _, rfl, szc 2, fun p np => ?_⟩
      have pl : p ≠ l := fun e => by rw [e, el2] at np; cases np
      exact q _ p (sm2.trans (same_new np)) ⟨l, sm2.free np, nl, Ne.symm pl, upd_same, by rw [upd_ne (Ne.symm pl)]; exact el2⟩
def spIsPos (K : PySem.W.Frag) : Sp := fun vs H Q _ => ∃ (v x : V) (M : MT) (i : Nat) (m : MvT) (s : Int) (cs : List Int), vs = [v, x, nV i] ∧ Dp K H v M.data ∧ Sit K H x s cs ∧ M.moves[i]? = some m ∧ m.pl < cs.length ∧ Q (.bl (m.can s cs)) H
def spStart (K : PySem.W.Frag) : Sp := fun vs H Q _ => ∃ (v : V) (M : MT) (n : Int), vs = [v, .int n] ∧ Dp K H v M.data ∧ 0 ≤ n ∧ M.crew < M.cnts.length ∧ ∀ H' p, Same H H' → NewSit H H' p M.sst (bump M.cnts M.crew n) → Q (.ref p) H'
end
section
variable {P : Program} {w : World} {K : PySem.W.Frag} {mg : Str → Option Value} {base : Heap}
theorem canAt_eq {ms : List MvT} {s : Int} {cs : List Int} {k : Nat} {m : MvT} (h : ms[k]? = some m) : canAt ms s cs k = m.can s cs := by
  unfold canAt
  rw [h]
def spPoss (K : PySem.W.Frag) : Sp := fun vs H Q _ => ∃ (v x : V) (M : MT) (s : Int) (cs : List Int), vs = [v, x] ∧ Dp K H v M.data ∧ Sit K H x s cs ∧ (∀ m ∈ M.moves, m.pl < cs.length) ∧ M.moves.length ≤ 1000 ∧
  ∀ H' p, Same H H' → H p = none → H' p = some (.lst ((canL M.moves s cs).map nV)) → Q (.ref p) H'
abbrev s_possible_moves : Stmt := topS 6
theorem sc_possible_moves : FnScope ["machine", "situation", "at", "move"] ["machine", "situation"] (defScope s_possible_moves) := ⟨rfl, rfl, rfl, by decide +kernel, rfl, by decide +kernel, by decide +kernel⟩
-- possible_moves slots: machine=0 situation=1(cell) at=2(None) move=3(None) globals: enumerate
theorem fd_possible_moves {f : Addr} {fd : FuncData} (F : Fun K "possible_moves" "possible_moves" s_possible_moves f fd) (m : mg "possible_moves" = some (.ref f)) (B : Bt mg) (D_can_take : Fd P w K mg base "can_take" ["situation", "move"] 1 (spCan K)) : Fd P w K mg base "possible_moves" ["machine", "situation"] 2 (spPoss K) := by
  refine ⟨f, fd, F.ok sc_possible_moves (fun vs H Q E h => ?_) (fun cdv A outer s H vs Q E hr h => ?_), m, F.kp, F.binds (ps := ["machine", "situation"]) fun _ _ _ _ _ _ us hl => match us, hl with | [_, _], _ => rfl⟩
  · obtain ⟨v, x, M, s, cs, rfl, _⟩ := h
    rfl
  obtain ⟨v, x, M, s, cs, rfl, hd, hx, hp, hl, q⟩ := h
  obtain ⟨a, sv, ma, xs, rfl, ha, _, hma, hxs⟩ := dp_mt hd
  have xl := dpa_map_len hxs
  refine ⟨_, (pss_one (ps_ret (pe_lc (own := [("at", 2), ("move", 3)]) (g := gTup K 2 (gCons (gName 2) (gCons (gName 3) gNil))) (by rfl) sc_possible_moves.nd (pi_enum (by rfl) B.enumerate (pa_cons (pe_ix (ixT K) (pv 0) pe_int (fun _ _ => rfl)) pa_nil)) (blkOk_by (own := [("at", 2), ("move", 3)]) (N := ["machine", "situation", "at", "move"]) (sc := (defScope s_possible_moves)) (by decide +kernel)) (fun _ _ _ _ _ => (pg_tup rfl (pgs_cons (pg_name (i := 2) sc_possible_moves.nd rfl (Or.inl rfl)) (pgs_cons (pg_name (i := 3) sc_possible_moves.nd rfl (Or.inl rfl)) pgs_nil)))) (fun _ _ _ _ _ => (pts_one (pt_val (pe_fn D_can_take (hr.mono (by decide)) rfl (pa_cons (pv 1) (pa_cons (pv 3) pa_nil)))))) (fun _ _ _ _ _ => (pv 2))))), ?_⟩
  refine ⟨_, rfl, _, _, _, _, rfl, rfl, ha, atI_nat (j := 4) rfl, ma, xs, rfl, hma, fun D nD => lc_it walk_enum (fun i H' => Same H H' ∧ H' D = some (.lst (((List.range i).filter (canAt M.moves s cs)).map nV))) ⟨same_new nD, upd_same⟩ (fun i H' _ p => p.1.seq hma) ?_ ?_⟩
  · rintro i y H1 H2 hi ⟨sm, eD⟩ ⟨T, u1, u2, rfl, nT, rfl, e1, e2⟩
    obtain ⟨mv, hmv, dmv⟩ := dpa_map_at hxs e2
    cases e1
    have s2 : Same H (upd H1 T (.tup [V.int (i : Nat), u2])) := sm.trans (same_new nT)
    have eD2 : (upd H1 T (.tup [V.int (i : Nat), u2])) D = some (.lst (((List.range i).filter (canAt M.moves s cs)).map nV)) := (same_new nT) _ _ eD
    refine ⟨T, _, rfl, .inl (.inl upd_same), rfl, _, _, rfl, _, _, rfl, rfl, rfl, ?_⟩
    refine ⟨_, rfl, _, rfl, _, _, s, cs, mv, rfl, Same.sit s2 hx, dp_mono s2 dmv, hp mv (List.mem_of_getElem? hmv), _, rfl, ?_⟩
    rw [← canAt_eq (s := s) (cs := cs) hmv]
    refine ite2 (fun e => ?_) (fun e => ?_)
    · refine ⟨_, rfl, _, eD2, ?_, Same.mut s2 nD, ?_⟩
      · rw [List.length_map]
        have := filt_len i (canAt M.moves s cs)
        exact szl (by omega)
      · rw [upd_same, filt_yes e, List.map_append]
        rfl
    · refine ⟨s2, ?_⟩
      rw [eD2, filt_no (by cases h : canAt M.moves s cs i with | true => exact absurd h e | false => rfl)]
  · rintro H1 ⟨sm, eD⟩
    rw [xl] at eD
    exact q _ D sm nD eD
def spLAft (K : PySem.W.Frag) : Sp := fun vs H Q _ => ∃ (y : V) (ca : Addr) (m : MvT) (cs : List Int) (S : Nat), vs = [y, .ref ca] ∧ Dp K H y m.data ∧ SqL K H ca (cs.map V.int) ∧ m.Fit S cs.length ∧
  ∀ H' p, Same H H' → NewSit H H' p m.ns (m.aft cs) → Q (.ref p) H'
end
section
variable {P : Program} {w : World} {K : PySem.W.Frag} {mg : Str → Option Value} {base : Heap}
theorem nw_ho {o : Addr} {u : HO} {H H' : Hp} (e : H o = some u) : Same (Nw H H') (Ho o H') := fun b x h => by
  obtain ⟨h1, h2⟩ := nw_some h
  have hne : b ≠ o := fun z => by rw [z, e] at h1; cases h1
  unfold Ho
  rw [if_neg hne]
  exact h2
theorem rep_one (n : Nat) (x : V) : (List.replicate n [x]).flatten = List.replicate n x := by
  induction n with
  | zero => rfl
  | succ n ih =>
    show x :: (List.replicate n [x]).flatten = x :: List.replicate n x
    rw [ih]
theorem rep_map (n : Nat) (x : Int) : List.replicate n (V.int x) = (List.replicate n x).map V.int := by rw [List.map_replicate]
abbrev s_law_pairs : Stmt := topS 16
theorem sc_law_pairs : FnScope ["cell", "places", "draws", "first", "second", "place"] ["cell", "places"] (defScope s_law_pairs) := ⟨rfl, rfl, rfl, by decide +kernel, rfl, by decide +kernel, by decide +kernel⟩
-- _law_pairs slots: cell=0 places=1(cell) draws=2(cell) first=3 second=4(cell) place=5(None) globals: _law_draws range len
def pairLims (P : Nat) : List Int := ([3] ++ List.replicate P 2) ++ List.replicate P (P : Int)
def pairFst (ds : List Int) (P : Nat) : List Nat := (List.range P).filter fun j => decide (ds.getD (1 + j) 0 = 1)
def pairSnd (ds : List Int) (P : Nat) : List Nat := (List.range P).filter fun j => decide (ds.getD (1 + j) 0 = 0)
theorem range_asc (P : Nat) (f : Nat → Bool) : ((List.range P).filter f).Pairwise (· < ·) := List.Pairwise.sublist List.filter_sublist List.pairwise_lt_range
def spPairs (K : PySem.W.Frag) : Sp := fun vs H Q _ => ∃ (c : Int) (n : Nat), vs = [.int c, nV n] ∧ 1 ≤ n ∧ n ≤ 6 ∧
  ∀ H' v sh, Same H H' → Dp K (Nw H H') v (.list (sh.map shD)) → ShOk sh n → sh.length ≤ 6 → Q v H'
theorem fd_law_pairs {f : Addr} {fd : FuncData} (F : Fun K "_law_pairs" "_law_pairs" s_law_pairs f fd) (m : mg "_law_pairs" = some (.ref f)) (B : Bt mg) (D_law_draws : Fd P w K mg base "_law_draws" ["cell", "limits"] 1 (spDraws K)) : Fd P w K mg base "_law_pairs" ["cell", "places"] 2 (spPairs K) := by
  refine ⟨f, fd, F.ok sc_law_pairs (fun vs H Q E h => ?_) (fun cdv A outer s H vs Q E hr h => ?_), m, F.kp, F.binds (ps := ["cell", "places"]) fun _ _ _ _ _ _ us hl => match us, hl with | [_, _], _ => rfl⟩
  · obtain ⟨c, n, rfl, _⟩ := h
    rfl
  obtain ⟨c, n, rfl, h1, h6, q⟩ := h
  refine ⟨_, (pss_cons (ps_set (i := 2) sc_law_pairs.nd rfl (Or.inr rfl) (pe_fn D_law_draws (hr.mono (by decide)) rfl (pa_cons (pv 0) (pa_cons (pe_op (opCat K) (pe_op (opCat K) (pe_lst (pa_cons pe_int pa_nil)) (pe_op op_rep (pe_lst (pa_cons pe_int pa_nil)) (pv 1))) (pe_op op_rep (pe_lst (pa_cons (pv 1) pa_nil)) (pv 1))) pa_nil))))
 (pss_cons (ps_setLc (i := 3) (own := [("place", 5)]) (g := gName 5) (by rfl) sc_law_pairs.nd rfl rfl (sw_true rfl rfl rfl (by decide +kernel)) (pi_range1 rfl B.range (pa_cons (pv 1) pa_nil)) (blkOk_by (own := [("place", 5)]) (N := ["cell", "places", "draws", "first", "second", "place"]) (sc := (defScope s_law_pairs)) (by decide +kernel)) (fun _ _ _ _ _ => (pg_name (i := 5) sc_law_pairs.nd rfl (Or.inl rfl))) (fun _ _ _ _ _ => (pts_one (pt_cmpR op_eq (pe_ix (ixL K) (pv 2) (pe_op op_add pe_int (pv 5)) (fun _ _ => rfl)) pe_int (nomark _)))) (fun _ _ _ _ _ => (pv 5)))
 (pss_cons (ps_set (i := 4) sc_law_pairs.nd rfl (Or.inr rfl) (pe_lc (own := [("place", 5)]) (g := gName 5) (by rfl) sc_law_pairs.nd (pi_range1 rfl B.range (pa_cons (pv 1) pa_nil)) (blkOk_by (own := [("place", 5)]) (N := ["cell", "places", "draws", "first", "second", "place"]) (sc := (defScope s_law_pairs)) (by decide +kernel)) (fun _ _ _ _ _ => (pg_name (i := 5) sc_law_pairs.nd rfl (Or.inl rfl))) (fun _ _ _ _ _ => (pts_one (pt_cmpR op_eq (pe_ix (ixL K) (pv 2) (pe_op op_add pe_int (pv 5)) (fun _ _ => rfl)) pe_int (nomark _)))) (fun _ _ _ _ _ => (pv 5))))
 (pss_cons (ps_if (PW.pt (pw_or (pt_cmpR op_gt (pe_ix (ixL K) (pv 2) pe_int (fun _ _ => rfl)) pe_int (nomark _)) (pw_or (pt_cmpR op_eq (pe_callB (cLen K) (by rfl) B.len PySem.boot_len (pa_cons (pv 3) pa_nil)) pe_int (nomark _)) (pw_or1 (pt_cmpR op_eq (pe_callB (cLen K) (by rfl) B.len PySem.boot_len (pa_cons (pv 4) pa_nil)) pe_int (nomark _))))))
 (pss_one (ps_ret (pe_lst pa_nil)))
 pss_nil)
 (pss_one (ps_ret (pe_lc (own := [("place", 5)]) (g := gName 5) (by rfl) sc_law_pairs.nd (piL K (pv 3)) (blkOk_by (own := [("place", 5)]) (N := ["cell", "places", "draws", "first", "second", "place"]) (sc := (defScope s_law_pairs)) (by decide +kernel)) (fun _ _ _ _ _ => (pg_name (i := 5) sc_law_pairs.nd rfl (Or.inl rfl))) (fun _ _ _ _ _ => pts_nil) (fun _ _ _ _ _ => (pe_tup (pa_cons (pv 5) (pa_cons (pe_ix (ixL K) (pv 4) (pe_op op_mod (pe_callTy call_int1 (by rfl) B.int (by decide +kernel) (pa_cons (pe_ix (ixL K) (pv 2) (pe_op op_add (pe_op op_add pe_int (pv 1)) (pv 5)) (fun _ _ => rfl)) pa_nil)) (pe_callB (cLen K) (by rfl) B.len PySem.boot_len (pa_cons (pv 4) pa_nil))) (fun _ _ => rfl)) pa_nil))))))))))), ?_⟩
  -- the limits
  refine ⟨_, rfl, szc 1, fun p1 n1 => ⟨szc 1, fun p2 n2 => ⟨_, rfl, p2, _, _, rfl, rfl, upd_same, by omega, by omega, sz (by show 1 * n ≤ _; omega), fun p3 n3 => ?_⟩⟩⟩
  rw [rep_one, show ((n : Int)).toNat = n from rfl]
  have e1 : (upd (upd (upd H p1 (.lst [.int 3])) p2 (.lst [.int 2])) p3 (.lst (List.replicate n (V.int 2)))) p1 = some (.lst [.int 3]) := (same_new n3) _ _ ((same_new n2) _ _ upd_same)
  have s3 : Same H (upd (upd (upd H p1 (.lst [.int 3])) p2 (.lst [.int 2])) p3 (.lst (List.replicate n (V.int 2)))) := ((same_new n1).trans (same_new n2)).trans (same_new n3)
  refine ⟨_, _, _, _, rfl, rfl, sq e1, sq upd_same, sz (by rw [List.length_replicate]; show 1 + n ≤ _; omega), fun p4 n4 => ?_⟩
  have s4 := s3.trans (same_new (o := HO.lst ([V.int 3] ++ List.replicate n (V.int 2))) n4)
  have e4 : (upd (upd (upd (upd H p1 (.lst [.int 3])) p2 (.lst [.int 2])) p3 (.lst (List.replicate n (V.int 2)))) p4 (.lst ([V.int 3] ++ List.replicate n (V.int 2)))) p4 = _ := upd_same
  generalize upd (upd (upd (upd H p1 (.lst [.int 3])) p2 (.lst [.int 2])) p3 (.lst (List.replicate n (V.int 2)))) p4 (.lst ([V.int 3] ++ List.replicate n (V.int 2))) = H4 at s4 e4 ⊢
  refine ⟨_, rfl, szc 1, fun p5 n5 => ⟨_, rfl, p5, _, _, rfl, rfl, upd_same, by omega, by omega, sz (by show 1 * n ≤ _; omega), fun p6 n6 => ?_⟩⟩
  rw [rep_one, show ((n : Int)).toNat = n from rfl]
  have s6 := (same_new (o := HO.lst [nV n]) n5).trans (same_new (o := HO.lst (List.replicate n (nV n))) n6)
  refine ⟨_, _, _, _, rfl, rfl, sq (s6 _ _ e4), sq upd_same, sz (by rw [List.length_append, List.length_replicate, List.length_replicate]; show 1 + n + n ≤ _; omega), fun p7 n7 => ?_⟩
  have lims : ([V.int 3] ++ List.replicate n (V.int 2)) ++ List.replicate n (nV n) = (pairLims n).map V.int := by
    unfold pairLims
    rw [List.map_append, List.map_append, rep_map, rep_map]
    rfl
  rw [lims]
  have ll : (pairLims n).length = 1 + n + n := by unfold pairLims; rw [List.length_append, List.length_append, List.length_replicate, List.length_replicate]; rfl
  have lm : ∀ x ∈ pairLims n, 0 < x ∧ x < 1073741824 := by
    intro x hx
    unfold pairLims at hx
    rcases List.mem_append.mp hx with hx | hx
    · rcases List.mem_append.mp hx with hx | hx
      · rw [List.mem_singleton.mp hx]; decide
      · rw [List.eq_of_mem_replicate hx]; decide
    · rw [List.eq_of_mem_replicate hx]; omega
  refine ⟨p7, c, pairLims n, rfl, sq upd_same, lm, by omega, fun H1 pd ds s1 npd ed dk => ?_⟩
  have sm : Same H H1 := (s4.trans s6).trans ((same_new n7).trans s1)
  have dl := dk.len
  rw [ll] at dl
  have dlast : ∀ j, j < n → 0 ≤ ds.getD (1 + n + j) 0 := fun j hj => by
    have hj2 : 1 + n + j < (pairLims n).length := by omega
    obtain ⟨d, hd, h0, _⟩ := dk.at (List.getElem?_eq_getElem hj2)
    rw [gd (by omega)] at hd
    cases hd
    exact h0
  clear s6 n7 e4 n6 n5 s4 e1 s3 n4 n3 n2 n1 s1 npd
  -- first
  dsimp only [gName]
  have hz : ∀ j : Nat, (1 : Int) + (0 + (j : Int)) = ((1 + j : Nat) : Int) := fun j => by omega
  refine ⟨_, rfl, _, rfl, by omega, by omega, fun D nD => lc_range (lo := 0) (n := n) (fun i H' => Same H1 H' ∧ H' D = some (.lst (((List.range i).filter fun j => decide (ds.getD (1 + j) 0 = 1)).map nV))) ⟨same_new nD, upd_same⟩ ?_ ?_⟩
  · rintro i H' hi ⟨sx, eD⟩
    refine ⟨rfl, _, rfl, _, rfl, _, _, rfl, rfl, _, _, _, _, rfl, rfl, sx.seq (sq ed), at_gd (hz i) (by omega), rfl, _, rfl, ite2 (fun e => ?_) (fun e => ?_)⟩
    · have e2 : decide (ds.getD (1 + i) 0 = 1) = true := decide_eq_true (V.int.inj (of_decide_eq_true e))
      refine ⟨_, rfl, _, eD, ?_, Same.mut sx nD, ?_⟩
      · rw [List.length_map]
        have := filt_len i fun j => decide (ds.getD (1 + j) 0 = 1)
        exact szl (by omega)
      · rw [upd_same, filt_yes (f := fun j => decide (ds.getD (1 + j) 0 = 1)) e2, List.map_append, Int.zero_add]
        rfl
    · have e2 : decide (ds.getD (1 + i) 0 = 1) = false := decide_eq_false fun z => e (decide_eq_true (by rw [z]))
      refine ⟨sx, ?_⟩
      rw [eD, filt_no (f := fun j => decide (ds.getD (1 + j) 0 = 1)) e2]
  rintro H2 ⟨s2, e2⟩
  change H2 D = some (.lst ((pairFst ds n).map nV)) at e2
  -- second
  dsimp only [gName]
  refine ⟨_, rfl, _, rfl, by omega, by omega, fun D2 nD2 => lc_range (lo := 0) (n := n) (fun i H' => Same H2 H' ∧ H' D2 = some (.lst (((List.range i).filter fun j => decide (ds.getD (1 + j) 0 = 0)).map nV))) ⟨same_new nD2, upd_same⟩ ?_ ?_⟩
  · rintro i H' hi ⟨sx, eD⟩
    refine ⟨rfl, _, rfl, _, rfl, _, _, rfl, rfl, _, _, _, _, rfl, rfl, (s2.trans sx).seq (sq ed), at_gd (hz i) (by omega), rfl, _, rfl, ite2 (fun e => ?_) (fun e => ?_)⟩
    · have e2 : decide (ds.getD (1 + i) 0 = 0) = true := decide_eq_true (V.int.inj (of_decide_eq_true e))
      refine ⟨_, rfl, _, eD, ?_, Same.mut sx nD2, ?_⟩
      · rw [List.length_map]
        have := filt_len i fun j => decide (ds.getD (1 + j) 0 = 0)
        exact szl (by omega)
      · rw [upd_same, filt_yes (f := fun j => decide (ds.getD (1 + j) 0 = 0)) e2, List.map_append, Int.zero_add]
        rfl
    · have e2 : decide (ds.getD (1 + i) 0 = 0) = false := decide_eq_false fun z => e (decide_eq_true (by rw [z]))
      refine ⟨sx, ?_⟩
      rw [eD, filt_no (f := fun j => decide (ds.getD (1 + j) 0 = 0)) e2]
  rintro H3 ⟨s3, e3⟩
  change H3 D2 = some (.lst ((pairSnd ds n).map nV)) at e3
  have e2' := s3 _ _ e2
  have s13 := s2.trans s3
  have smx := sm.trans s13
  have fl : (pairFst ds n).length ≤ n := filt_len _ _
  dsimp only [gName]
  -- the test
  have sed := s13.seq (sq (K := K) ed)
  have t1 : Ans (tTest (tOp (rI0 fun i j => .bl (decide (i > j))) (tOp (rIxL K) (tVar 2) (tC (V.int 0))) (tC (V.int 0)))) [some (.int c), some (nV n), some (.ref pd), some (.ref D), some (.ref D2), none] H3 (decide (ds.getD 0 0 > 0)) := fun Q q => ⟨_, rfl, _, _, _, _, rfl, rfl, sed, at_gd (j := 0) rfl (by omega), _, _, rfl, rfl, _, rfl, q⟩
  have t2 : ∀ (k : Nat) (A : Addr) (xs : List Nat), [some (V.int c), some (nV n), some (.ref pd), some (.ref D), some (.ref D2), none][k]? = some (some (.ref A)) → H3 A = some (.lst (xs.map nV)) → Ans (tTest (tOp rEq (tCB (rLenQ K) (tCons (tVar k) tNil)) (tC (V.int 0)))) [some (.int c), some (nV n), some (.ref pd), some (.ref D), some (.ref D2), none] H3 (decide (xs.length = 0)) := fun k A xs hk hA Q q => by
    refine ⟨_, hk, A, _, rfl, .inl (sq hA), rfl, _, rfl, ?_⟩
    rw [show decide (V.int ((xs.map nV).length : Nat) = V.int 0) = decide (xs.length = 0) from decide_eq_decide.mpr ⟨fun h => by have := V.int.inj h; rw [List.length_map] at this; omega, fun h => by rw [List.length_map, h]; rfl⟩]
    exact q
  refine ifR (ansOr t1 (ansOr (t2 3 D _ rfl e2') (t2 4 D2 _ rfl e3))) (fun hb => ?_) (fun hb => ?_)
  · refine ⟨sz (by decide), fun p np => ?_⟩
    refine q _ _ [] (smx.trans (same_new np)) (.lst (sq ?_) .nil) ⟨.nil, fun p hp => (by cases hp), fun p hp => (by cases hp), fun p hp => (by cases hp)⟩ (by decide)
    rw [nw_at (smx.free np)]
    exact upd_same
  · have sn : (pairSnd ds n).length ≠ 0 := fun h => by rw [h, decide_eq_true rfl, Bool.or_true, Bool.or_true] at hb; cases hb
    have sn1 : (pairSnd ds n).length ≤ n := filt_len _ _
    refine ⟨_, rfl, D, rfl, ⟨_, sq e2'⟩, fun A nA => lc_list (xs := (pairFst ds n).map nV) (fun i H' => Same H3 H' ∧ ∃ zs, H' A = some (.lst zs) ∧ zs.length = i ∧ DpAll K (Ho A H') zs ((((pairFst ds n).take i).map fun j => (j, (pairSnd ds n).getD (ds.getD (1 + n + j) 0 % ((pairSnd ds n).length : Int)).toNat 0)).map shD) ∧ DpAll K (Nw H3 (Ho A H')) zs ((((pairFst ds n).take i).map fun j => (j, (pairSnd ds n).getD (ds.getD (1 + n + j) 0 % ((pairSnd ds n).length : Int)).toNat 0)).map shD)) ⟨same_new nA, [], upd_same, rfl, .nil, .nil⟩ (fun _ H' _ p => p.1.seq (sq e2')) ?_ ?_⟩
    · rintro i x H5 hx ⟨s5, zs, eA, zl, dz, dzn⟩
      obtain ⟨j, hj, rfl⟩ := get_map_inv hx
      have hi : i < (pairFst ds n).length := (List.getElem?_eq_some_iff.mp hj).1
      have hjn : j < n := by
        have := List.mem_of_getElem? hj
        unfold pairFst at this
        exact List.mem_range.mp (List.mem_filter.mp this).1
      have hz2 : (1 : Int) + (n : Int) + (j : Int) = ((1 + n + j : Nat) : Int) := by omega
      have slp : (0 : Int) < ((pairSnd ds n).length : Int) := by omega
      have md := mod_in (ds.getD (1 + n + j) 0) slp
      obtain ⟨k, ek⟩ : ∃ k : Nat, ds.getD (1 + n + j) 0 % ((pairSnd ds n).length : Int) = (k : Int) := ⟨_, (Int.toNat_of_nonneg md.1).symm⟩
      have hk : k < (pairSnd ds n).length := by omega
      have gk : ((pairSnd ds n).map nV)[k]? = some (nV ((pairSnd ds n).getD k 0)) := by
        rw [List.getElem?_map, List.getD_eq_getElem?_getD, List.getElem?_eq_getElem hk]
        rfl
      refine ⟨rfl, _, rfl, _, rfl, _, rfl, _, rfl, _, _, rfl, rfl, _, rfl, _, _, rfl, rfl, _, _, _, _, rfl, rfl, s5.seq sed, at_gd hz2 (by omega), .inl ⟨_, rfl, ?_⟩⟩
      refine ⟨_, rfl, D2, _, rfl, .inl (s5.seq (sq e3)), _, _, rfl, rfl, ?_, _, _, _, _, rfl, rfl, s5.seq (sq e3), at_n (j := k) ?_ gk, szc 2, fun t nt => ?_⟩
      · show (0 : Int) < (((pairSnd ds n).map nV).length : Nat)
        rw [List.length_map]; exact slp
      · show ds.getD (1 + n + j) 0 % (((pairSnd ds n).map nV).length : Nat) = (k : Int)
        rw [List.length_map]; exact ek
      have s6 := same_new (o := HO.tup [nV j, nV ((pairSnd ds n).getD k 0)]) nt
      have tA : t ≠ A := fun e => by rw [e, eA] at nt; cases nt
      have nt3 : H3 t = none := s5.free nt
      have ho2 : ∀ u, Ho A (upd (upd H5 t (.tup [nV j, nV ((pairSnd ds n).getD k 0)])) A u) t = some (.tup [nV j, nV ((pairSnd ds n).getD k 0)]) := fun u => by
        unfold Ho
        rw [if_neg tA, upd_ne tA]
        exact upd_same
      have dn : ∀ u, Dp K (Ho A (upd (upd H5 t (.tup [nV j, nV ((pairSnd ds n).getD k 0)])) A u)) (.ref t) (shD (j, (pairSnd ds n).getD k 0)) := fun u => .tup (st (ho2 u)) (.cons (.int _) (.cons (.int _) .nil))
      have dn2 : ∀ u, Dp K (Nw H3 (Ho A (upd (upd H5 t (.tup [nV j, nV ((pairSnd ds n).getD k 0)])) A u))) (.ref t) (shD (j, (pairSnd ds n).getD k 0)) := fun u => .tup (st (by rw [nw_at nt3]; exact ho2 u)) (.cons (.int _) (.cons (.int _) .nil))
      have es : ((((pairFst ds n).take (i + 1)).map fun j => (j, (pairSnd ds n).getD (ds.getD (1 + n + j) 0 % ((pairSnd ds n).length : Int)).toNat 0)).map shD) = ((((pairFst ds n).take i).map fun j => (j, (pairSnd ds n).getD (ds.getD (1 + n + j) 0 % ((pairSnd ds n).length : Int)).toNat 0)).map shD) ++ [shD (j, (pairSnd ds n).getD k 0)] := by
        rw [take_snoc hj, List.map_append, List.map_append]
        show _ ++ [shD (j, (pairSnd ds n).getD (ds.getD (1 + n + j) 0 % ((pairSnd ds n).length : Int)).toNat 0)] = _
        rw [ek]
        rfl
      refine ⟨zs, s6 _ _ eA, szl (by omega), Same.mut (s5.trans s6) nA, zs ++ [.ref t], upd_same, by rw [List.length_append, zl]; rfl, ?_, ?_⟩
      · rw [es]
        exact dpa_app (dpAll_mono ((ho_same s6).trans ho_mut) dz) (.cons (dn _) .nil)
      · rw [es]
        exact dpa_app (dpAll_mono (nw_mono (Same.refl _) ((ho_same s6).trans ho_mut)) dzn) (.cons (dn2 _) .nil)
    · rintro H5 ⟨s5, zs, eA, zl, dz, dzn⟩
      rw [List.length_map, List.take_length] at dz dzn
      refine q _ _ _ (smx.trans s5) (.lst (sq ?_) (dpAll_mono ?_ dzn)) ?_ ?_
      · rw [nw_at (smx.free nA)]
        exact eA
      · exact (nw_mono smx ho_out)
      · have fs : ((pairFst ds n).map fun j => (j, (pairSnd ds n).getD (ds.getD (1 + n + j) 0 % ((pairSnd ds n).length : Int)).toNat 0)).map (·.1) = pairFst ds n := by
          rw [List.map_map]
          exact List.map_id' _
        have sm : ∀ j, (pairSnd ds n).getD (ds.getD (1 + n + j) 0 % ((pairSnd ds n).length : Int)).toNat 0 ∈ pairSnd ds n := fun j => by
          have md := mod_in (ds.getD (1 + n + j) 0) (show (0 : Int) < ((pairSnd ds n).length : Int) by omega)
          have hk : (ds.getD (1 + n + j) 0 % ((pairSnd ds n).length : Int)).toNat < (pairSnd ds n).length := by omega
          rw [List.getD_eq_getElem?_getD, List.getElem?_eq_getElem hk]
          exact List.getElem_mem hk
        refine ⟨by rw [fs]; exact range_asc n _, fun p hp => ?_, fun p hp => ?_, fun p hp r hr e => ?_⟩
        · obtain ⟨j, hj, rfl⟩ := List.mem_map.mp hp
          exact List.mem_range.mp (List.mem_filter.mp hj).1
        · obtain ⟨j, hj, rfl⟩ := List.mem_map.mp hp
          exact List.mem_range.mp (List.mem_filter.mp (sm j)).1
        · obtain ⟨j, hj, rfl⟩ := List.mem_map.mp hp
          obtain ⟨j2, hj2, rfl⟩ := List.mem_map.mp hr
          have a1 := of_decide_eq_true (List.mem_filter.mp (sm j)).2
          have a2 := of_decide_eq_true (List.mem_filter.mp hj2).2
          have e' : (pairSnd ds n).getD (ds.getD (1 + n + j) 0 % ((pairSnd ds n).length : Int)).toNat 0 = j2 := e
          rw [e'] at a1
          rw [a1] at a2
          exact absurd a2 (by decide)
      · rw [List.length_map]; omega
end
section
variable {P : Program} {w : World} {K : PySem.W.Frag} {mg : Str → Option Value} {base : Heap}
/-! ### such data can be compared and shown -/
theorem nD_nc {n m : Nat} (h : n < 100) : NcD (nD n) 1 m := NcD.int (by omega)
theorem ints_nc {m : Nat} : ∀ {ns : List Int}, (∀ n ∈ ns, n.natAbs < 10 ^ 7) → NcL (ns.map PyData.int) ns.length m
  | [], _ => .nil
  | n :: ns, h => by
    have := NcL.cons (NcD.int (m := m) (h n List.mem_cons_self)) (ints_nc (m := m) fun x hx => h x (List.mem_cons_of_mem _ hx))
    exact this.mono (by rw [List.length_cons]; omega) (Nat.le_refl _)
theorem sit_nc {s : Int} {ns : List Int} (hs : s.natAbs < 10 ^ 7) (h : ∀ n ∈ ns, n.natAbs < 10 ^ 7) : NcD (sitD s ns) (ns.length + 3) 2 :=
  (NcL.tup (m := 1) (.cons (.int hs) (.cons (NcL.lst (ints_nc (m := 0) h)) (.nil (c := 0))))).mono (by omega) (Nat.le_refl _)
theorem shs_nc : ∀ {sh : List (Nat × Nat)}, (∀ p ∈ sh, p.1 < 100 ∧ p.2 < 100) → NcL (sh.map shD) (3 * sh.length) 1
  | [], _ => .nil
  | p :: r, h => by
    obtain ⟨h1, h2⟩ := h p List.mem_cons_self
    have a : NcD (shD p) 3 1 := NcL.tup (m := 0) (.cons (nD_nc h1) (.cons (nD_nc h2) (.nil (c := 0))))
    exact (NcL.cons a (shs_nc fun x hx => h x (List.mem_cons_of_mem _ hx))).mono (by rw [List.length_cons]; omega) (Nat.le_refl _)
theorem mv_nc {m : MvT} {S P : Nat} (h : m.Fit S P) (hS : S ≤ 100) (hP : P ≤ 100) : NcD m.data (3 * m.sh.length + 7) 3 := by
  have a := shs_nc (sh := m.sh) fun p hp => ⟨by have := h.sh.fst p hp; omega, by have := h.sh.snd p hp; omega⟩
  have b : NcD (sdD m.sd) 1 2 := by
    have := h.sd
    cases e : m.sd with
    | none => exact ⟨rfl, Nat.le_refl _, Nat.zero_le _⟩
    | some d => exact nD_nc (by have := this d e; omega)
  have h1 := h.st
  have h2 := h.pl
  have h3 := h.ns
  have h4 := h.np
  exact (NcL.tup (m := 2) (.cons (nD_nc (by omega)) (.cons (nD_nc (by omega)) (.cons (nD_nc (by omega)) (.cons (nD_nc (by omega)) (.cons b (.cons (NcL.lst a) (.nil (c := 0))))))))).mono (by omega) (Nat.le_refl _)
theorem mvs_nc {S P : Nat} (hS : S ≤ 100) (hP : P ≤ 100) : ∀ {ms : List MvT}, (∀ m ∈ ms, m.Fit S P ∧ m.sh.length ≤ 6) → NcL (ms.map MvT.data) (25 * ms.length) 3
  | [], _ => .nil
  | m :: r, h => by
    obtain ⟨h1, h2⟩ := h m List.mem_cons_self
    exact (NcL.cons (mv_nc h1 hS hP) (mvs_nc hS hP fun x hx => h x (List.mem_cons_of_mem _ hx))).mono (by rw [List.length_cons]; omega) (Nat.le_refl _)
theorem mt_nc {M : MT} (h : M.Ok) (h6 : ∀ m ∈ M.moves, m.sh.length ≤ 6) : NcD M.data 330 5 := by
  have a := mvs_nc (S := M.states) (P := M.places) (by have := h.s2; omega) (by have := h.p2; omega) (ms := M.moves) fun m hm => ⟨h.fit m hm, h6 m hm⟩
  have b := sit_nc (s := (M.sst : Int)) (ns := M.cnts) (by have := h.ss; have := h.s2; omega) fun n hn => by have := h.cb n hn; omega
  have h1 := h.ml
  have h2 := h.cl
  have h3 := h.p2
  have h4 := h.s2
  have h5 := h.cr
  exact (NcL.tup (m := 4) (.cons (nD_nc (by omega)) (.cons (nD_nc (by omega)) (.cons (b.mono (Nat.le_refl _) (by decide)) (.cons (nD_nc (by omega)) (.cons (NcL.lst a) (.nil (c := 0)))))))).mono (by omega) (Nat.le_refl _)
abbrev s_law_machine : Stmt := topS 17
theorem sc_law_machine : FnScope ["cell", "cells", "shifting", "draws", "states", "places", "moves", "k", "part", "started", "shifts", "move"] ["cell", "cells", "shifting"] (defScope s_law_machine) := ⟨rfl, rfl, rfl, by decide +kernel, rfl, by decide +kernel, by decide +kernel⟩
-- _law_machine slots: cell=0 cells=1 shifting=2 draws=3 states=4 places=5 moves=6 k=7 part=8 started=9 shifts=10 move=11 globals: _law_draws range min len int _law_pairs
def spMach (K : PySem.W.Frag) : Sp := fun vs H Q _ => ∃ (c : Int) (a : Addr) (ns : List Int) (b : Bool), vs = [.int c, .ref a, .bl b] ∧ SqL K H a (ns.map V.int) ∧ ns.length ≤ 100 ∧
  ∀ H' v (M : MT), Same H H' → Dp K H' v M.data → M.Ok → (∀ m ∈ M.moves, m.sh.length ≤ 6) → (b = false → ∀ m ∈ M.moves, m.sh = []) → Q v H'
theorem cut_cnts {x0 x1 x2 x3 x4 x5 x6 x7 x8 x9 : V} {P : Nat} (h1 : 1 ≤ P) (h6 : P ≤ 6) : cutV [x0, x1, x2, x3, x4, x5, x6, x7, x8, x9] (some 4) (some (4 + (P : Int))) = [x4, x5, x6, x7, x8, x9].take P := by
  have : P = 1 ∨ P = 2 ∨ P = 3 ∨ P = 4 ∨ P = 5 ∨ P = 6 := by omega
  rcases this with rfl | rfl | rfl | rfl | rfl | rfl <;> rfl
theorem eqv_any {ds : List PyData} {d : PyData} (h : (ds.any fun z => PyData.eqv z d) = false) (e : PyData.eqv d d = true) : d ∉ ds := fun hm => by
  have : (ds.any fun z => PyData.eqv z d) = true := List.any_eq_true.mpr ⟨d, hm, e⟩
  rw [this] at h
  cases h
theorem fd_law_machine {f : Addr} {fd : FuncData} (F : Fun K "_law_machine" "_law_machine" s_law_machine f fd) (m : mg "_law_machine" = some (.ref f)) (B : Bt mg) (D_law_draws : Fd P w K mg base "_law_draws" ["cell", "limits"] 1 (spDraws K)) (D_law_pairs : Fd P w K mg base "_law_pairs" ["cell", "places"] 2 (spPairs K)) : Fd P w K mg base "_law_machine" ["cell", "cells", "shifting"] 3 (spMach K) := by
  refine ⟨f, fd, F.ok sc_law_machine (fun vs H Q E h => ?_) (fun cdv A outer s H vs Q E hr h => ?_), m, F.kp, F.binds (ps := ["cell", "cells", "shifting"]) fun _ _ _ _ _ _ us hl => match us, hl with | [_, _, _], _ => rfl⟩
  · obtain ⟨c, a, ns, b, rfl, _⟩ := h
    rfl
  obtain ⟨c, a, ns, b, rfl, hs, hn, q⟩ := h
  refine ⟨_, (pss_cons (ps_set (i := 3) sc_law_machine.nd rfl (Or.inl rfl) (pe_fn D_law_draws (hr.mono (by decide)) rfl (pa_cons (pv 0) (pa_cons (pe_op (opCat K) (pe_lst (pa_cons pe_int (pa_cons pe_int (pa_cons pe_int (pa_cons pe_int pa_nil))))) (pe_op op_rep (pe_lst (pa_cons pe_int pa_nil)) pe_int)) pa_nil))))
 (pss_cons (ps_set (i := 4) sc_law_machine.nd rfl (Or.inl rfl) (pe_op op_add pe_int (pe_ix (ixL K) (pv 3) pe_int (fun _ _ => rfl))))
 (pss_cons (ps_set (i := 5) sc_law_machine.nd rfl (Or.inl rfl) (pe_op op_add pe_int (pe_ix (ixL K) (pv 3) pe_int (fun _ _ => rfl))))
 (pss_cons (ps_set (i := 6) sc_law_machine.nd rfl (Or.inl rfl) (pe_lst pa_nil))
 (pss_cons (ps_for PassesOwn.never rfl (pi_range1 rfl B.range (pa_cons (pe_callB (call_min2 rfl) (by rfl) B.min (by decide +kernel) (pa_cons pe_int (pa_cons (pe_callB (cLen K) (by rfl) B.len PySem.boot_len (pa_cons (pv 1) pa_nil)) pa_nil))) pa_nil)) (pg_name (i := 7) sc_law_machine.nd rfl (Or.inl rfl))
 (pss_cons (ps_set (i := 8) sc_law_machine.nd rfl (Or.inl rfl) (pe_fn D_law_draws (hr.mono (by decide)) rfl (pa_cons (pe_ix (ixL K) (pv 1) (pv 7) (fun _ _ => rfl)) (pa_cons (pe_lst (pa_cons pe_int (pa_cons pe_int (pa_cons pe_int (pa_cons pe_int (pa_cons pe_int (pa_cons (pe_op op_pow pe_int pe_int) pa_nil))))))) pa_nil))))
 (pss_cons (ps_set (i := 9) sc_law_machine.nd rfl (Or.inl rfl) pe_non)
 (C8.pss_cut (ps_if (pt_cmpR op_lt (pe_ix (ixL K) (pv 8) pe_int (fun _ _ => rfl)) pe_int (nomark _))
 (pss_one (ps_set (i := 9) sc_law_machine.nd rfl (Or.inl rfl) (pe_op op_mod (pe_callTy call_int1 (by rfl) B.int (by decide +kernel) (pa_cons (pe_op op_add (pe_ix (ixL K) (pv 8) pe_int (fun _ _ => rfl)) (pe_ix (ixL K) (pv 8) pe_int (fun _ _ => rfl))) pa_nil)) (pv 5))))
 pss_nil)
 (pss_cons (ps_set (i := 10) sc_law_machine.nd rfl (Or.inl rfl) (pe_lst pa_nil))
 (C8.pss_cut (ps_if (pt_val (pv 2))
 (pss_one (ps_set (i := 10) sc_law_machine.nd rfl (Or.inl rfl) (pe_fn D_law_pairs (hr.mono (by decide)) rfl (pa_cons (pe_ix (ixL K) (pv 8) pe_int (fun _ _ => rfl)) (pa_cons (pv 5) pa_nil)))))
 pss_nil)
 (pss_cons (ps_set (i := 11) sc_law_machine.nd rfl (Or.inl rfl) (pe_tup (pa_cons (pe_op op_mod (pe_callTy call_int1 (by rfl) B.int (by decide +kernel) (pa_cons (pe_ix (ixL K) (pv 8) pe_int (fun _ _ => rfl)) pa_nil)) (pv 4)) (pa_cons (pe_op op_mod (pe_callTy call_int1 (by rfl) B.int (by decide +kernel) (pa_cons (pe_ix (ixL K) (pv 8) pe_int (fun _ _ => rfl)) pa_nil)) (pv 5)) (pa_cons (pe_op op_mod (pe_callTy call_int1 (by rfl) B.int (by decide +kernel) (pa_cons (pe_ix (ixL K) (pv 8) pe_int (fun _ _ => rfl)) pa_nil)) (pv 4)) (pa_cons (pe_op op_mod (pe_callTy call_int1 (by rfl) B.int (by decide +kernel) (pa_cons (pe_ix (ixL K) (pv 8) pe_int (fun _ _ => rfl)) pa_nil)) (pv 5)) (pa_cons (pv 9) (pa_cons (pv 10) pa_nil))))))))
 (pss_one (ps_if (pt_cmpR (opNotInD K (hu65 hr)) (pv 11) (pv 6) (by rfl))
 (pss_one (ps_expr (peBm K PySem.F.plainAttrs_list PySem.F.slot_list_append PySem.F.type_list_append mt_append (pv 6) (pa_cons (pv 11) pa_nil))))
 pss_nil)))))))))
 (pss_one (ps_ret (pe_tup (pa_cons (pv 4) (pa_cons (pv 5) (pa_cons (pe_tup (pa_cons (pe_op op_mod (pe_callTy call_int1 (by rfl) B.int (by decide +kernel) (pa_cons (pe_ix (ixL K) (pv 3) pe_int (fun _ _ => rfl)) pa_nil)) (pv 4)) (pa_cons (pe_slice (slL K) (pv 3) (po_some pe_int) (po_some (pe_op op_add pe_int (pv 5)))) pa_nil))) (pa_cons (pe_op op_mod (pe_callTy call_int1 (by rfl) B.int (by decide +kernel) (pa_cons (pe_ix (ixL K) (pv 3) pe_int (fun _ _ => rfl)) pa_nil)) (pv 5)) (pa_cons (pv 6) pa_nil))))))))))))), ?_⟩
  refine ⟨_, rfl, szc 4, fun p1 n1 => ⟨szc 1, fun p2 n2 => ⟨p2, _, _, rfl, rfl, upd_same, by decide, by decide, sz (by decide), fun p3 n3 => ?_⟩⟩⟩
  have e1 : (upd (upd (upd H p1 (.lst [.int 4, .int 6, .int 6, .int 4])) p2 (.lst [.int 3])) p3 (.lst (List.replicate (6 : Int).toNat [V.int 3]).flatten)) p1 = some (.lst [.int 4, .int 6, .int 6, .int 4]) := (same_new n3) _ _ ((same_new n2) _ _ upd_same)
  refine ⟨_, _, _, _, rfl, rfl, sq e1, sq upd_same, sz (by decide), fun p4 n4 => ?_⟩
  refine ⟨p4, c, [4, 6, 6, 4, 3, 3, 3, 3, 3, 3], rfl, sq upd_same, by decide, by decide, fun H1 pd ds s1 npd ed dk => ?_⟩
  have sm : Same H H1 := (((same_new n1).trans (same_new n2)).trans (same_new n3)).trans ((same_new n4).trans s1)
  clear e1 s1 n1 n2 n3 n4 npd
  obtain ⟨x0, r0, rfl, x00, x01, dk⟩ := dk.cons
  obtain ⟨x1, r1, rfl, x10, x11, dk⟩ := dk.cons
  obtain ⟨x2, r2, rfl, x20, x21, dk⟩ := dk.cons
  obtain ⟨x3, r3, rfl, x30, x31, dk⟩ := dk.cons
  obtain ⟨x4, r4, rfl, x40, x41, dk⟩ := dk.cons
  obtain ⟨x5, r5, rfl, x50, x51, dk⟩ := dk.cons
  obtain ⟨x6, r6, rfl, x60, x61, dk⟩ := dk.cons
  obtain ⟨x7, r7, rfl, x70, x71, dk⟩ := dk.cons
  obtain ⟨x8, r8, rfl, x80, x81, dk⟩ := dk.cons
  obtain ⟨x9, r9, rfl, x90, x91, dk⟩ := dk.cons
  obtain rfl := dk.nil
  have sd := sq (K := K) ed
  obtain ⟨S, eS⟩ : ∃ S : Nat, 1 + x0 = (S : Int) := ⟨(1 + x0).toNat, by omega⟩
  obtain ⟨N, eN⟩ : ∃ N : Nat, 1 + x1 = (N : Int) := ⟨(1 + x1).toNat, by omega⟩
  have hS : 1 ≤ S ∧ S ≤ 4 := by omega
  have hN : 1 ≤ N ∧ N ≤ 6 := by omega
  refine ⟨_, rfl, _, _, _, _, rfl, rfl, sd, atI_nat (j := 0) rfl, _, _, rfl, rfl, ?_⟩
  dsimp only [gName]
  rw [eS]
  refine ⟨_, rfl, _, _, _, _, rfl, rfl, sd, atI_nat (j := 1) rfl, _, _, rfl, rfl, ?_⟩
  dsimp only [gName]
  rw [eN]
  refine ⟨sz (by decide), fun o no => ?_⟩
  dsimp only [gName]
  have nl : (ns.map V.int).length = ns.length := List.length_map _
  obtain ⟨n, en, hn⟩ : ∃ n : Nat, (if (((ns.map V.int).length : Nat) : Int) < 12 then (((ns.map V.int).length : Nat) : Int) else 12) = (n : Int) ∧ n ≤ 12 ∧ n ≤ ns.length := by
    rw [nl]
    split
    · exact ⟨ns.length, rfl, by omega, by omega⟩
    · exact ⟨12, rfl, by decide, by omega⟩
  have lims : ∀ x ∈ [4, 6, 4, 6, 9, (10 : Int) ^ (9 : Int).toNat], 0 < x ∧ x < 1073741824 := by decide
  have smo := sm.trans (same_new (o := HO.lst []) no)
  refine ⟨_, rfl, a, _, rfl, .inl (smo.seq hs), _, _, rfl, _, congrArg (fun z => [V.int z]) en, by omega, by omega, for_range (lo := 0) (n := n) (fun i σ' H' => ∃ (y7 y8 y9 y10 y11 : Option V) (ms : List MvT) (xs : List V), σ' = [some (.int c), some (.ref a), some (.bl b), some (.ref pd), some (nV S), some (nV N), some (.ref o), y7, y8, y9, y10, y11] ∧ Same H1 H' ∧ H' o = some (.lst xs) ∧ ms.length ≤ i ∧ DpAll K (Ho o H') xs (ms.map MvT.data) ∧ (∀ m ∈ ms, m.Fit S N ∧ m.sh.length ≤ 6) ∧ ms.Nodup ∧ (b = false → ∀ m ∈ ms, m.sh = [])) ?_ ?_ ?_⟩
  · exact ⟨_, _, _, _, _, [], [], rfl, same_new no, upd_same, Nat.le_refl _, .nil, (fun m hm => by cases hm), .nil, fun _ m hm => by cases hm⟩
  · rintro i σ' H' hi ⟨y7, y8, y9, y10, y11, ms, xs, rfl, s1, eo, ml, dms, fit, nd, nsh⟩
    have hz : (0 : Int) + (i : Int) = (i : Int) := by omega
    have xl := dpa_map_len dms
    refine ⟨_, rfl, _, rfl, _, _, _, _, rfl, rfl, (sm.trans s1).seq hs, at_gd hz (by omega), _, _, rfl, rfl, ⟨by decide, by decide, by decide⟩, szc 6, fun p5 n5 => ⟨p5, _, [4, 6, 4, 6, 9, (10 : Int) ^ (9 : Int).toNat], rfl, sq upd_same, lims, (by show 6 ≤ 1000; decide), fun H2 pp dp s2 np2 ep dkp => ?_⟩⟩
    have s12 := (same_new n5).trans s2
    clear s2 n5 np2
    obtain ⟨y0, r0, rfl, y00, y01, dkp⟩ := dkp.cons
    obtain ⟨y1, r1, rfl, y10', y11', dkp⟩ := dkp.cons
    obtain ⟨y2, r2, rfl, y20, y21, dkp⟩ := dkp.cons
    obtain ⟨y3, r3, rfl, y30, y31, dkp⟩ := dkp.cons
    obtain ⟨y4, r4, rfl, y40, y41, dkp⟩ := dkp.cons
    obtain ⟨y5, r5, rfl, y50, y51, dkp⟩ := dkp.cons
    obtain rfl := dkp.nil
    have sp := sq (K := K) ep
    have eo2 := s12 _ _ eo
    have dms2 := dpAll_mono (ho_same s12) dms
    have s02 := s1.trans s12
    clear dkp dms eo s1 s12
    dsimp only [gName]
    refine ⟨fun σ' H' => ∃ sd : Option Nat, (∀ d, sd = some d → d < N) ∧ σ' = [some (.int c), some (.ref a), some (.bl b), some (.ref pd), some (nV S), some (nV N), some (.ref o), some (.int (0 + (i : Int))), some (.ref pp), some (sdV sd), y10, y11] ∧ H' = H2, ?_, ?_⟩
    · refine ⟨_, rfl, _, _, _, _, rfl, rfl, sp, atI_nat (j := 4) rfl, _, _, rfl, rfl, _, rfl, ite2 (fun e => ?_) (fun e => ?_)⟩
      · have md := mod_in (y4 + y3) (show (0 : Int) < (N : Int) by omega)
        obtain ⟨k, ek⟩ : ∃ k : Nat, (y4 + y3) % (N : Int) = (k : Int) := ⟨_, (Int.toNat_of_nonneg md.1).symm⟩
        refine ⟨_, rfl, _, _, _, _, rfl, rfl, sp, atI_nat (j := 4) rfl, _, rfl, _, _, _, _, rfl, rfl, sp, atI_nat (j := 3) rfl, _, _, rfl, rfl, .inl ⟨_, rfl, _, rfl, _, _, rfl, rfl, (show (0 : Int) < (N : Int) by omega), ?_⟩⟩
        dsimp only [gName]
        rw [ek]
        exact ⟨some k, fun d hd => by cases hd; omega, rfl, rfl⟩
      · exact ⟨none, fun d hd => (by cases hd), rfl, rfl⟩
    rintro σ' H2' ⟨sd', hsd, rfl, rfl⟩
    refine ⟨sz (by decide), fun p6 n6 => ?_⟩
    dsimp only [gName]
    refine ⟨fun σ' H' => ∃ (v : V) (sh : List (Nat × Nat)), σ' = [some (.int c), some (.ref a), some (.bl b), some (.ref pd), some (nV S), some (nV N), some (.ref o), some (.int (0 + (i : Int))), some (.ref pp), some (sdV sd'), some v, y11] ∧ Same H2' H' ∧ Dp K (Ho o H') v (.list (sh.map shD)) ∧ ShOk sh N ∧ sh.length ≤ 6 ∧ (b = false → sh = []), ?_, ?_⟩
    · have s6 := same_new (o := HO.lst []) n6
      refine ⟨_, rfl, b, rfl, ?_⟩
      cases b with
      | true =>
        refine iteT ⟨_, rfl, _, _, _, _, rfl, rfl, s6.seq sp, atI_nat (j := 5) rfl, _, rfl, y5, N, rfl, hN.1, hN.2, fun H4 v sh s4 dv ok l6 => ⟨v, sh, rfl, s6.trans s4, dp_mono (nw_ho (s6 _ _ eo2)) dv, ok, l6, fun z => nomatch z⟩⟩
      | false =>
        exact iteF ⟨.ref p6, [], rfl, s6, dpo_newL eo2 n6 .nil, ⟨.nil, fun p hp => (by cases hp), fun p hp => (by cases hp), fun p hp => (by cases hp)⟩, by decide, fun _ => rfl⟩
    rintro σ' H4 ⟨v, sh, rfl, s4, dv, ok, l6, shn⟩
    have m0 := mod_in y0 (show (0 : Int) < (S : Int) by omega)
    have m1 := mod_in y1 (show (0 : Int) < (N : Int) by omega)
    have m2 := mod_in y2 (show (0 : Int) < (S : Int) by omega)
    have m3 := mod_in y3 (show (0 : Int) < (N : Int) by omega)
    obtain ⟨q0, e0⟩ : ∃ k : Nat, y0 % (S : Int) = (k : Int) := ⟨_, (Int.toNat_of_nonneg m0.1).symm⟩
    obtain ⟨q1, e1⟩ : ∃ k : Nat, y1 % (N : Int) = (k : Int) := ⟨_, (Int.toNat_of_nonneg m1.1).symm⟩
    obtain ⟨q2, e2⟩ : ∃ k : Nat, y2 % (S : Int) = (k : Int) := ⟨_, (Int.toNat_of_nonneg m2.1).symm⟩
    obtain ⟨q3, e3⟩ : ∃ k : Nat, y3 % (N : Int) = (k : Int) := ⟨_, (Int.toNat_of_nonneg m3.1).symm⟩
    have sp4 := s4.seq sp
    have ps : (0 : Int) < (S : Int) := by omega
    have pn : (0 : Int) < (N : Int) := by omega
    refine ⟨_, rfl, _, _, _, _, rfl, rfl, sp4, atI_nat (j := 0) rfl, .inl ⟨_, rfl, _, rfl, _, _, rfl, rfl, ps, ?_⟩⟩
    refine ⟨_, rfl, _, _, _, _, rfl, rfl, sp4, atI_nat (j := 1) rfl, .inl ⟨_, rfl, _, rfl, _, _, rfl, rfl, pn, ?_⟩⟩
    refine ⟨_, rfl, _, _, _, _, rfl, rfl, sp4, atI_nat (j := 2) rfl, .inl ⟨_, rfl, _, rfl, _, _, rfl, rfl, ps, ?_⟩⟩
    refine ⟨_, rfl, _, _, _, _, rfl, rfl, sp4, atI_nat (j := 3) rfl, .inl ⟨_, rfl, _, rfl, _, _, rfl, rfl, pn, ?_⟩⟩
    refine ⟨_, rfl, _, rfl, szc 6, fun t nt => ?_⟩
    dsimp only [gName]
    rw [e0, e1, e2, e3]
    have eo4 := s4 _ _ eo2
    have fitm : (MvT.mk q0 q1 q2 q3 sd' sh).Fit S N := ⟨(by show q0 < S; omega), (by show q1 < N; omega), (by show q2 < S; omega), (by show q3 < N; omega), hsd, ok⟩
    have dt : Dp K (Ho o (upd H4 t (.tup [nV q0, nV q1, nV q2, nV q3, sdV sd', v]))) (.ref t) (MvT.mk q0 q1 q2 q3 sd' sh).data := dpo_newT eo4 nt (.cons (.int _) (.cons (.int _) (.cons (.int _) (.cons (.int _) (.cons (sd_dp _) (.cons dv .nil))))))
    have s5 := same_new (o := HO.tup [nV q0, nV q1, nV q2, nV q3, sdV sd', v]) nt
    have eo5 := s5 _ _ eo4
    have dms5 := dpAll_mono ((ho_same s4).trans (ho_same s5)) dms2
    have s05 := s02.trans (s4.trans s5)
    generalize upd H4 t (.tup [nV q0, nV q1, nV q2, nV q3, sdV sd', v]) = H5 at dt eo5 dms5 s05 ⊢
    have nc1 := mv_nc fitm (by omega) (by omega)
    have ncl := NcL.lst (mvs_nc (S := S) (P := N) (by omega) (by omega) (ms := ms) fit)
    refine ⟨_, rfl, _, rfl, _, _, dp_mono ho_out dt, .lst (sq eo5) (dpAll_mono ho_out dms5), nc1.shaped (by decide), ncl.shaped (by decide), _, rfl, ?_⟩
    cases hany : ((ms.map MvT.data).any fun z => PyData.eqv z (MvT.mk q0 q1 q2 q3 sd' sh).data) with
    | true => exact iteF ⟨_, _, _, _, _, ms, xs, rfl, s05, eo5, by omega, dms5, fit, nd, nsh⟩
    | false =>
      refine iteT ⟨_, rfl, .inl ⟨rfl, _, sq eo5⟩, _, rfl, o, _, _, rfl, rfl, eo5, szl (by omega), ?_⟩
      have hni : MvT.mk q0 q1 q2 q3 sd' sh ∉ ms := fun hm => eqv_any hany nc1.eqv (List.mem_map_of_mem hm)
      refine ⟨_, _, _, _, _, ms ++ [MvT.mk q0 q1 q2 q3 sd' sh], xs ++ [.ref t], rfl, Same.mut s05 no, upd_same, by rw [List.length_append, List.length_singleton]; omega, ?_, ?_, ?_, ?_⟩
      · rw [List.map_append]
        exact dpa_app (dpAll_mono ho_mut dms5) (.cons (dp_mono ho_mut dt) .nil)
      · intro x hx
        rcases List.mem_append.mp hx with hx | hx
        · exact fit x hx
        · rw [List.mem_singleton.mp hx]; exact ⟨fitm, l6⟩
      · refine List.nodup_append.mpr ⟨nd, List.pairwise_singleton _ _, fun x hx y hy e => ?_⟩
        rw [List.mem_singleton.mp hy] at e
        rw [e] at hx
        exact hni hx
      · intro hb x hx
        rcases List.mem_append.mp hx with hx | hx
        · exact nsh hb x hx
        · rw [List.mem_singleton.mp hx]; exact shn hb
  · rintro σ' H' ⟨y7, y8, y9, y10, y11, ms, xs, rfl, s1, eo, ml, dms, fit, nd, nsh⟩
    have m3 := mod_in x3 (show (0 : Int) < (S : Int) by omega)
    have m2 := mod_in x2 (show (0 : Int) < (N : Int) by omega)
    obtain ⟨q3, e3⟩ : ∃ k : Nat, x3 % (S : Int) = (k : Int) := ⟨_, (Int.toNat_of_nonneg m3.1).symm⟩
    obtain ⟨q2, e2⟩ : ∃ k : Nat, x2 % (N : Int) = (k : Int) := ⟨_, (Int.toNat_of_nonneg m2.1).symm⟩
    have ps : (0 : Int) < (S : Int) := by omega
    have pn : (0 : Int) < (N : Int) := by omega
    have sd1 := s1.seq sd
    refine ⟨_, rfl, _, rfl, ?_⟩
    refine ⟨_, rfl, _, _, _, _, rfl, rfl, sd1, atI_nat (j := 3) rfl, .inl ⟨_, rfl, _, rfl, _, _, rfl, rfl, ps, ?_⟩⟩
    refine ⟨_, rfl, _, rfl, _, rfl, _, _, rfl, rfl, _, rfl, pd, _, rfl, sd1, fun p np => ⟨szc 2, fun t nt => ?_⟩⟩
    refine ⟨_, rfl, _, _, _, _, rfl, rfl, ((same_new np).trans (same_new nt)).seq sd1, atI_nat (j := 2) rfl, .inl ⟨_, rfl, _, rfl, _, _, rfl, rfl, pn, ?_⟩⟩
    refine ⟨_, rfl, szc 5, fun r nr => ?_⟩
    have cN : cutV ([x0, x1, x2, x3, x4, x5, x6, x7, x8, x9].map V.int) (some 4) (some (4 + (N : Int))) = ([x4, x5, x6, x7, x8, x9].take N).map V.int := by
      rw [List.map_take]
      exact cut_cnts hN.1 hN.2
    have g : ∀ (cl : List V), cl = ([x4, x5, x6, x7, x8, x9].take N).map V.int → ∀ (a b : Int), a = (q3 : Int) → b = (q2 : Int) → (upd H' p (.lst cl)) t = none → (upd (upd H' p (.lst cl)) t (.tup [.int a, .ref p])) r = none → Q (.ref r) (upd (upd (upd H' p (.lst cl)) t (.tup [.int a, .ref p])) r (.tup [nV S, nV N, .ref t, .int b, .ref o])) := by
      rintro cl rfl a b rfl rfl nt nr
      have s2 := same_new (o := HO.lst (([x4, x5, x6, x7, x8, x9].take N).map V.int)) np
      have s3 := same_new (o := HO.tup [.int (q3 : Int), .ref p]) nt
      have s4 := same_new (o := HO.tup [nV S, nV N, .ref t, .int (q2 : Int), .ref o]) nr
      have s24 := (s2.trans s3).trans s4
      have sit : Sit K _ (.ref t) (q3 : Int) ([x4, x5, x6, x7, x8, x9].take N) := ⟨t, p, rfl, st (s4 _ _ upd_same), (s3.trans s4).seq (sq upd_same)⟩
      have cl : ([x4, x5, x6, x7, x8, x9].take N).length = N := by rw [List.length_take]; show min N 6 = N; omega
      refine q _ _ ⟨S, N, q3, [x4, x5, x6, x7, x8, x9].take N, q2, ms⟩ ((sm.trans s1).trans s24) ?_ ⟨hS.1, hS.2, hN.1, hN.2, (by show q3 < S; omega), cl, ?_, (by show q2 < N; omega), (by show ms.length ≤ 12; omega), fun m hm => (fit m hm).1, nd⟩ (fun m hm => (fit m hm).2) nsh
      · exact .tup (st upd_same) (.cons (.int _) (.cons (.int _) (.cons (sit_dp sit) (.cons (.int _) (.cons (.lst (s24.seq (sq eo)) (dpAll_mono (ho_out.trans s24) dms)) .nil)))))
      · intro x hx
        have hx := List.mem_of_mem_take hx
        simp only [List.mem_cons, List.not_mem_nil, or_false] at hx
        rcases hx with rfl | rfl | rfl | rfl | rfl | rfl <;> omega
    exact g _ cN _ _ e3 e2 nt nr
end
/-! ### for in a generator's body -/
open GenW in
section
open GenW
variable {X : Cx} {tg : Expr}
def tGFor (wi : TI) (g : TG) (tb : TGn) : TGn := fun D ys σ H => wi σ H fun J H1 => ∃ W : Nat → Nat → List V → L2.St → Hp → Prop, (∃ m, W 0 m ys σ H1) ∧ ∀ i m ys σ H, W i m ys σ H →
  (J.stop i H ∧ D.nx ys σ H) ∨ (J.go i H ∧ ∃ N : List V → L2.St → Hp → Prop, (∀ ys' σ' H', N ys' σ' H' → ∃ m', m' < m ∧ W (i + 1) m' ys' σ' H') ∧ ∀ x H', J.yld i H x H' → g x σ H' fun σ2 H2 => tb { D with nx := N, ct := N, bk := D.nx } ys σ2 H2)
theorem gs_for {iter : Expr} {body : List Stmt} {wi : TI} {g : TG} {tb : TGn} {pos : Pos} (hp : PassesOwn (model X.prog X.w) X.A X.env X.xe) (hc : X.calm = true) (hi : PI X tg iter wi) (hg : PG X tg g) (hb : GSs X body tb)
    (hs : ∀ x, foldedSetIterable iter X.env x = pure x := by intro _; rfl) : GS X (.For tg iter body [] pos) (tGFor wi g tb) := by
  refine ⟨fun A S ip R n ys s₀ c fs K J gd lv s σ H D gc hn k hI ht => ?_⟩
  rw [exec_For]
  refine seg_bind_wrap (wpAny_standAt ?_)
  obtain ⟨acc, cc, r, I⟩ := hI
  refine seg_bind_wrap ?_
  rw [gc.over]
  refine wpAny_mono (hi.run _ s σ H _ I ht) (fun v s1 h1 => ?_) fun x s' hx => k.exc n s₀ x s' hx
  refine seg_bind_wrap (wpAny_of_eq (hs v) ?_)
  refine seg_bind_wrap (wpAny_standAt ?_)
  refine seg_bind_wrap (wpAny_holding ?_)
  rw [gc.over]
  refine wpAny_mono h1 (fun itv s2 h2 => ?_) fun x s' hx => k.exc n s₀ x s' hx
  obtain ⟨it, fp, tn, Jt, H2, e, I2, T, st2, f2, W, ⟨m0, w0⟩, turn⟩ := h2
  subst e
  have stat : ∀ {H' : Hp} (acc' : Array Value) (c' : Nat), (∀ b ∈ fp, H' b = none) → ∀ b ∈ fp, FpOk X ((S, lstObj acc' c') :: ip) H' b := fun {H'} acc' c' hn b hb => by
    obtain ⟨f0, f1, f3, f4, f5, f6⟩ := f2 b hb
    refine ⟨hn b hb, f1, f3, f4, f5, fun p hp => ?_⟩
    rcases List.mem_append.mp hp with hp | hp
    · exact f6 p (List.mem_append_left _ hp)
    · rcases List.mem_cons.mp hp with hp | hp
      · rw [hp]
        exact f6 (S, lstObj acc cc) (List.mem_append_right _ List.mem_cons_self)
      · exact f6 p (List.mem_append_right _ (List.mem_cons_of_mem _ hp))
  refine seg_call fun p => ?_
  have gl := fun (kk : Result → Sem PySem.Fin) => gc_loop (k := kk) (c' := .forLoop tg (.ref it) body [] X.env) (l := lv []) (kp := []) (p := p) gc rfl rfl
  have glb := fun (kk : Result → Sem PySem.Fin) => gc_loop (k := kk) (c' := .block [] X.env) (l := lv []) (kp := []) (p := p) gc rfl rfl
  have loop : ∀ (m i n : Nat) (ys : List V) (s₀ s : Shared) (σ : L2.St) (H : Hp), n + ys.length = sizeLine → W i m ys σ H → GI X S ip ys σ H s → tn i s.heap → (∀ b ∈ fp, H b = none) →
      Seg (model X.prog X.w) A R (GY X S) n s₀ (.forLoop tg (.ref it) body [] X.env) ((model X.prog X.w).den (.forLoop tg (.ref it) body [] X.env))
        (.ret (fun r => ((match r with | .ok f => (.pure f : Sem Flow) | .error e => .raise e).onRaise (cameBack X.env)).wrap K J gd lv) none (gd false) (lv []) c p [] :: fs) s := by
    intro m
    induction m using Nat.strongRecOn with
    | ind m ih =>
      intro i n ys s₀ s σ H hn w hI hst hfr
      have ee : ∀ (n : Nat) (s₀ : Shared) (x : Value) (s' : Shared), X.xe x s' → Seg (model X.prog X.w) A R (GY X S) n s₀ (.forLoop tg (.ref it) body [] X.env)
          ((do noteFrame x X.env; theTreesLotGoes x : Sem Unit).wrap (fun _ => .raise x) .raise id id)
          (.ret (fun r => ((match r with | .ok f => (.pure f : Sem Flow) | .error e => .raise e).onRaise (cameBack X.env)).wrap K J gd lv) none (gd false) (lv []) c p [] :: fs) s' := fun n s₀ x s' hx => by
        refine seg_wrap ?_
        rw [(gl _).over]
        refine wpAny_bind (wpAny_mono (hp x s' hx) (fun _ s'' hcb => wpAny_theTreesLotGoes ?_) fun y s'' hcb => ?_)
        · exact seg_leaf (.error x) (seg_cameBack gc k hcb)
        · exact seg_leaf (.error y) (seg_cameBack gc k hcb)
      have ee' : ∀ (n : Nat) (s₀ : Shared) (x : Value) (s' : Shared), X.xe x s' → Seg (model X.prog X.w) A R (GY X S) n s₀ (.forLoop tg (.ref it) body [] X.env)
          ((do noteFrame x X.env; theTreesLotGoes x : Sem Unit).bind fun _ => .raise x)
          (.ret (fun r => ((match r with | .ok f => (.pure f : Sem Flow) | .error e => .raise e).onRaise (cameBack X.env)).wrap K J gd lv) none (gd false) (lv []) c p [] :: fs) s' := fun n s₀ x s' hx => by
        rw [Sem.bind_eq_wrap]
        exact ee n s₀ x s' hx
      obtain ⟨acc3, c3, r3, I3⟩ := hI
      show Seg _ A _ _ _ s₀ _ ((forTurn tg (.ref it) body [] X.env).onRaise (fun x => do noteFrame x X.env; theTreesLotGoes x)) _ s
      unfold forTurn
      rw [Sem.onRaise_eq_wrap]
      refine seg_bind_wrap (wpAny_standAt ?_)
      refine seg_bind_wrap ?_
      rw [(gl _).over]
      rcases turn i m ys σ H w with ⟨stop, qn⟩ | ⟨go, N, hN, step⟩
      · refine wpAny_onRaise (wpAny_mono (T.done X rfl rfl rfl hc i _ s σ H X.xe I3 (stat _ _ hfr) hst stop) (fun r s4 ⟨hr, I4⟩ => ?_) fun x s' hx => wpAny_standAt (ee' n s₀ x s' hx))
        subst hr
        refine seg_again rfl ?_
        show Seg _ A _ _ _ s₀ _ (do return PySem.Fin.done (← (execs [] X.env).onRaise (fun x => do noteFrame x X.env; theTreesLotGoes x))) _ s4
        exact seg_leaf (.ok .next) (k.ok n ys s₀ s4 .next hn ⟨σ, H, ⟨acc3, c3, r3, I4⟩, qn⟩)
      · refine wpAny_onRaise (wpAny_mono (T.item X rfl rfl rfl hc i _ s σ H X.xe I3 (stat _ _ hfr) hst go) (fun r s4 ⟨u, hr, h4⟩ => ?_) fun x s' hx => wpAny_standAt (ee' n s₀ x s' hx))
        subst hr
        refine seg_bind_wrap ?_
        rw [(gl _).over]
        refine wpAny_mono h4 (fun _ s5 ⟨x, H5, I5, r5, y5, st5, fr5⟩ => ?_) fun x s' hx => ee' n s₀ x s' hx
        have I5' := I5.pinned (stat _ _ fr5) (T.obj _ _ st5)
        refine seg_bind_wrap ?_
        rw [(gl _).over]
        refine wpAny_mono (hg.run _ s5 σ H5 x u _ I5' r5 (step x H5 y5)) (fun _ s6 ⟨σ6, H6, I6, q6⟩ => ?_) fun x s' hx => ee' n s₀ x s' hx
        have gl' : GC X S (ip ++ pinsAt fp s5.heap) A (.forLoop tg (.ref it) body [] X.env) (.ret (fun r => ((match r with | .ok f => (.pure f : Sem Flow) | .error e => .raise e).onRaise (cameBack X.env)).wrap K J gd lv) none (gd false) (lv []) c p [] :: fs) id := by
          have g0 := gl (fun r => ((match r with | .ok f => (.pure f : Sem Flow) | .error e => .raise e).onRaise (cameBack X.env)).wrap K J gd lv)
          refine ⟨g0.pn, fun q hq => ?_, g0.apart, g0.over, g0.split, g0.guard, g0.gd⟩
          rcases List.mem_append.mp hq with hq | hq
          · exact g0.ip q hq
          · obtain ⟨hb1, _⟩ := of_pinsAt hq
            exact fun z => (f2 q.1 hb1).2.2.2.2.2 (S, lstObj acc cc) (List.mem_append_right _ List.mem_cons_self) z.symm
        rw [Sem.bind_eq_wrap', Sem.wrap_wrap]
        refine hb.run A S (ip ++ pinsAt fp s5.heap) R n ys s₀ _ _ _ _ id id s6 σ6 H6 { D with nx := N, ct := N, bk := D.nx } gl' hn ⟨fun n' ys' s₀' s7 f hn' hs7 => ?_, fun n' s₀' x s3 hx => ?_⟩ ⟨acc3, c3, r3, I6⟩ q6
        · have again : ∀ {σ7 : L2.St} {H7 : Hp}, GI X S (ip ++ pinsAt fp s5.heap) ys' σ7 H7 s7 → N ys' σ7 H7 → Seg (model X.prog X.w) A R (GY X S) n' s₀' (.forLoop tg (.ref it) body [] X.env) (.pure (.again (.forLoop tg (.ref it) body [] X.env)))
              (.ret (fun r => ((match r with | .ok f => (.pure f : Sem Flow) | .error e => .raise e).onRaise (cameBack X.env)).wrap K J gd lv) none (gd false) (lv []) c p [] :: fs) s7 := fun {σ7 H7} I7 n7 => by
            obtain ⟨acc7, c7, r7, I7⟩ := I7
            obtain ⟨m', hm, w7⟩ := hN ys' σ7 H7 n7
            have pin7 : ∀ b o, b ∈ fp → s5.heap.get? b = some o → s7.heap.get? b = some o ∧ H7 b = none := fun b o hb e =>
              ⟨(I7.pin (b, o) (List.mem_append_right _ (List.mem_cons_of_mem _ (List.mem_append_right _ (mem_pinsAt hb e))))).1, (I7.pin (b, o) (List.mem_append_right _ (List.mem_cons_of_mem _ (List.mem_append_right _ (mem_pinsAt hb e))))).2.1⟩
            have I8 : Inv X (((S, lstObj acc7 c7) :: ip) ++ pinsAt fp s5.heap) σ7 H7 s7 := I7
            refine seg_again rfl (ih m' hm (i + 1) n' ys' s₀' s7 σ7 H7 hn' w7 ⟨acc7, c7, r7, I8.unpinned⟩ (T.keep _ _ _ st5 fun b hb o e => (pin7 b o hb e).1) fun b hb => ?_)
            obtain ⟨o, e, d⟩ := T.obj _ _ st5 b hb
            exact (pin7 b o hb e).2
          have out : ∀ {σ7 : L2.St} {H7 : Hp}, GI X S (ip ++ pinsAt fp s5.heap) ys' σ7 H7 s7 → GI X S ip ys' σ7 H7 s7 := fun {σ7 H7} I7 => by
            obtain ⟨acc7, c7, r7, I7⟩ := I7
            have I8 : Inv X (((S, lstObj acc7 c7) :: ip) ++ pinsAt fp s5.heap) σ7 H7 s7 := I7
            exact ⟨acc7, c7, r7, I8.unpinned⟩
          cases f with
          | next => obtain ⟨σ7, H7, I7, n7⟩ := hs7; exact again I7 n7
          | cont => obtain ⟨σ7, H7, I7, n7⟩ := hs7; exact again I7 n7
          | brk => obtain ⟨σ7, H7, I7, q7⟩ := hs7; exact seg_leaf (.ok .next) (k.ok n' ys' s₀' s7 .next hn' ⟨σ7, H7, out I7, q7⟩)
          | ret v => obtain ⟨x7, σ7, H7, I7, r7, q7⟩ := hs7; exact seg_leaf (.ok (.ret v)) (k.ok n' ys' s₀' s7 (.ret v) hn' ⟨x7, σ7, H7, out I7, r7, q7⟩)
        · exact ee' n' s₀' x s3 hx
  exact loop m0 0 n ys s₀ s2 σ H2 hn w0 ⟨acc, cc, r, I2⟩ st2 fun b hb => (f2 b hb).1
end
section
variable {P : Program} {w : World} {K : PySem.W.Frag} {mg : Str → Option Value} {base : Heap}
theorem cMinL (K : PySem.W.Frag) {X : Cx} (hc : X.calm = true) (h : X.K = K := by rfl) : CallR X (.builtin "min") (rMin K) := h ▸ cr_min hc
/-! ### runs -/
def stepT (ms : List MvT) (x : Int × List Int) (k : Nat) : Int × List Int := match ms[k]? with
  | some m => ((m.ns : Int), m.aft x.2)
  | none => x
def endT (ms : List MvT) (x : Int × List Int) (run : List Nat) : Int × List Int := run.foldl (stepT ms) x
def RunOk (ms : List MvT) (x : Int × List Int) (run : List Nat) : Prop := ∀ i k, run[i]? = some k → ∃ m : MvT, ms[k]? = some m ∧ m.can (endT ms x (run.take i)).1 (endT ms x (run.take i)).2 = true
def traceT (ms : List MvT) (x : Int × List Int) (run : List Nat) : List (Int × List Int) := (List.range (run.length + 1)).map fun i => endT ms x (run.take i)
theorem endT_snoc (ms : List MvT) (x : Int × List Int) (r : List Nat) (k : Nat) : endT ms x (r ++ [k]) = stepT ms (endT ms x r) k := by
  unfold endT
  rw [List.foldl_append]
  rfl
theorem stepT_len (ms : List MvT) (x : Int × List Int) (k : Nat) : (stepT ms x k).2.length = x.2.length := by
  unfold stepT
  split
  · exact aft_len _ _
  · rfl
theorem endT_len (ms : List MvT) : ∀ (r : List Nat) (x : Int × List Int), (endT ms x r).2.length = x.2.length
  | [], _ => rfl
  | k :: r, x => by
    show (endT ms (stepT ms x k) r).2.length = _
    rw [endT_len ms r, stepT_len]
theorem stepT_at {ms : List MvT} {x : Int × List Int} {k : Nat} {m : MvT} (h : ms[k]? = some m) : stepT ms x k = ((m.ns : Int), m.aft x.2) := by
  unfold stepT
  rw [h]
def schedT (ms : List MvT) : Int × List Int → List Int → List Nat
  | _, [] => []
  | x, z :: r => if canL ms x.1 x.2 = [] then [] else
      (canL ms x.1 x.2).getD (z % ((canL ms x.1 x.2).length : Int)).toNat 0 :: schedT ms (stepT ms x ((canL ms x.1 x.2).getD (z % ((canL ms x.1 x.2).length : Int)).toNat 0)) r
def pickT (ms : List MvT) (x : Int × List Int) (z : Int) : Nat := (canL ms x.1 x.2).getD (z % ((canL ms x.1 x.2).length : Int)).toNat 0
theorem pick_lt {c : List Nat} (hc : c ≠ []) (z : Int) : (z % (c.length : Int)).toNat < c.length := by
  have : 0 < c.length := List.length_pos_iff.mpr hc
  have := mod_in z (show (0 : Int) < (c.length : Int) by omega)
  omega
theorem pick_at {c : List Nat} (hc : c ≠ []) (z : Int) : c[(z % (c.length : Int)).toNat]? = some (c.getD (z % (c.length : Int)).toNat 0) := by
  rw [List.getD_eq_getElem?_getD, List.getElem?_eq_getElem (pick_lt hc z)]
  rfl
theorem pick_mem {ms : List MvT} {x : Int × List Int} (hc : canL ms x.1 x.2 ≠ []) (z : Int) : pickT ms x z ∈ canL ms x.1 x.2 := List.mem_of_getElem? (pick_at hc z)
theorem sched_cons {ms : List MvT} {x : Int × List Int} {z : Int} {r : List Int} (hc : canL ms x.1 x.2 ≠ []) : schedT ms x (z :: r) = pickT ms x z :: schedT ms (stepT ms x (pickT ms x z)) r := by
  show (if canL ms x.1 x.2 = [] then _ else _) = _
  rw [if_neg hc]
  rfl
theorem sched_end {ms : List MvT} {x : Int × List Int} {r : List Int} (hc : canL ms x.1 x.2 = []) : schedT ms x r = [] := by
  cases r with
  | nil => rfl
  | cons z r =>
    show (if canL ms x.1 x.2 = [] then _ else _) = _
    rw [if_pos hc]
theorem sched_len (ms : List MvT) : ∀ (zs : List Int) (x : Int × List Int), (schedT ms x zs).length ≤ zs.length
  | [], _ => Nat.le_refl _
  | z :: r, x => by
    by_cases hc : canL ms x.1 x.2 = []
    · rw [sched_end hc]
      exact Nat.zero_le _
    · rw [sched_cons hc, List.length_cons, List.length_cons]
      exact Nat.succ_le_succ (sched_len ms r _)
theorem sched_take (ms : List MvT) : ∀ (i : Nat) (zs : List Int) (x : Int × List Int), i ≤ zs.length → (schedT ms x (zs.take i)).length = i → schedT ms x zs = schedT ms x (zs.take i) ++ schedT ms (endT ms x (schedT ms x (zs.take i))) (zs.drop i)
  | 0, zs, x, _, _ => rfl
  | i + 1, [], x, h, _ => absurd h (by simp)
  | i + 1, z :: r, x, h, hl => by
    by_cases hc : canL ms x.1 x.2 = []
    · rw [sched_end hc] at hl
      cases hl
    · have e : schedT ms x ((z :: r).take (i + 1)) = pickT ms x z :: schedT ms (stepT ms x (pickT ms x z)) (r.take i) := sched_cons hc
      rw [e] at hl ⊢
      rw [sched_cons hc, sched_take ms i r _ (Nat.le_of_succ_le_succ h) (Nat.succ.inj hl)]
      rfl
theorem sched_snoc {ms : List MvT} {x : Int × List Int} {zs : List Int} {i : Nat} {z : Int} (hz : zs[i]? = some z) (hl : (schedT ms x (zs.take i)).length = i) (hc : canL ms (endT ms x (schedT ms x (zs.take i))).1 (endT ms x (schedT ms x (zs.take i))).2 ≠ []) :
    schedT ms x (zs.take (i + 1)) = schedT ms x (zs.take i) ++ [pickT ms (endT ms x (schedT ms x (zs.take i))) z] := by
  have hi := (List.getElem?_eq_some_iff.mp hz).1
  have h := sched_take ms i (zs.take (i + 1)) x (by rw [List.length_take]; omega) (by rw [List.take_take, Nat.min_eq_left (Nat.le_succ i)]; exact hl)
  rw [List.take_take, Nat.min_eq_left (Nat.le_succ i)] at h
  rw [h]
  have e : (zs.take (i + 1)).drop i = [z] := by
    rw [take_snoc hz, List.drop_append, List.drop_take, Nat.sub_self, List.take_zero, List.length_take, Nat.min_eq_left (Nat.le_of_lt hi), Nat.sub_self]
    rfl
  rw [e, sched_cons hc]
  rfl
theorem sched_run (ms : List MvT) : ∀ (zs : List Int) (x : Int × List Int), RunOk ms x (schedT ms x zs)
  | [], x => fun i k h => by cases h
  | z :: r, x => by
    by_cases hc : canL ms x.1 x.2 = []
    · rw [sched_end hc]
      exact fun i k h => by cases h
    · rw [sched_cons hc]
      intro i k h
      cases i with
      | zero =>
        cases h
        exact mem_canL.mp (pick_mem hc z)
      | succ i => exact sched_run ms r _ i k h
abbrev s_copied : Stmt := topS 10
theorem sc_copied : FnScope ["situation"] ["situation"] (defScope s_copied) := ⟨rfl, rfl, rfl, by decide +kernel, rfl, by decide +kernel, by decide +kernel⟩
-- copied slots: situation=0 globals: list
def spCopied (K : PySem.W.Frag) : Sp := fun vs H Q _ => ∃ (x : V) (s : Int) (cs : List Int), vs = [x] ∧ Sit K H x s cs ∧ ∀ H' p, Same H H' → NewSit H H' p s cs → Q (.ref p) H'
theorem fd_copied {f : Addr} {fd : FuncData} (F : Fun K "copied" "copied" s_copied f fd) (m : mg "copied" = some (.ref f)) (B : Bt mg) : Fd P w K mg base "copied" ["situation"] 1 (spCopied K) := by
  refine ⟨f, fd, F.ok sc_copied (fun vs H Q E h => ?_) (fun cdv A outer s H vs Q E hr h => ?_), m, F.kp, F.binds (ps := ["situation"]) fun _ _ _ _ _ _ us hl => match us, hl with | [_], _ => rfl⟩
  · obtain ⟨x, s, cs, rfl, _⟩ := h
    rfl
  obtain ⟨x, s, cs, rfl, ⟨a, ca, rfl, ha, hca⟩, q⟩ := h
  refine ⟨_, (pss_one (ps_ret (pe_tup (pa_cons (pe_ix (ixT K) (pv 0) pe_int (fun _ _ => rfl)) (pa_cons (pe_callTy (cList K) (by rfl) B.list (by decide +kernel) (pa_cons (pe_ix (ixT K) (pv 0) pe_int (fun _ _ => rfl)) pa_nil)) pa_nil))))), ?_⟩
  refine ⟨_, rfl, _, _, _, _, rfl, rfl, ha, atI_nat (j := 0) rfl, _, rfl, _, _, _, _, rfl, rfl, ha, atI_nat (j := 1) rfl, ca, _, rfl, .inl hca, fun l nl => ⟨szc 2, fun p np => ?_⟩⟩
  have pl : p ≠ l := fun e => by rw [e, upd_same] at np; cases np
  exact q _ p ((same_new nl).trans (same_new np)) ⟨l, (same_new nl).free np, nl, Ne.symm pl, upd_same, by rw [upd_ne (Ne.symm pl)]; exact upd_same⟩
theorem NewSit.ho {H H' : Hp} {p b : Addr} {s : Int} {cs : List Int} {o : HO} (h : NewSit H H' p s cs) (e : H b = some o) : Sit K (Ho b H') (.ref p) s cs := by
  obtain ⟨ca, n1, n2, _, h1, h2⟩ := h
  have a1 : p ≠ b := fun z => by rw [z, e] at n1; cases n1
  have a2 : ca ≠ b := fun z => by rw [z, e] at n2; cases n2
  refine ⟨p, ca, rfl, st ?_, sq ?_⟩
  · unfold Ho
    rw [if_neg a1]
    exact h1
  · unfold Ho
    rw [if_neg a2]
    exact h2
/-! ### the generator -/
theorem okG {x qual : Str} {st : Stmt} {f : Addr} {fd : FuncData} {N ps : List Str} {k : Nat} {sp : SpG} (F : Fun K x qual st f fd) (S : GScope N ps (defScope st)) (len : ∀ vs H Q E, sp vs H Q E → vs.length = ps.length)
    (hbody : ∀ (cdv : Value) (A : Around) (outer : List Env) (s : Shared) (H : Hp) (vs : List V) (Q : List V → Hp → Prop) (E : XK) (pn : List (Addr × Obj)), Room k (A.deeper (envOfC qual (defScope st) s.heap.objs.size f cdv)) → sp vs H Q E →
      ∃ t, GSs (gcxOf P w K mg base N qual (defScope st) f cdv A outer s H E pn) (defBody st) t ∧ t { nx := fun ys _ H' => Q ys H', rt := fun ys v H' => v = .non ∧ Q ys H' } [] (start N vs) H) : GFn P w K mg base (k + 1) f fd ps sp := by
  obtain ⟨oc, od, kV, doc, pm, an, cdv, ct, osl, rfl, lk, hcd⟩ := F.ex
  exact gfn_of lk hcd S len fun A outer s H vs Q E pn hr h => hbody cdv A outer s H vs Q E pn hr h
abbrev s_situations : Stmt := topS 8
theorem sc_situations : GScope ["machine", "situation", "run", "now", "move"] ["machine", "situation", "run"] (defScope s_situations) := ⟨rfl, rfl, rfl, by decide +kernel, rfl, by decide +kernel, by decide +kernel⟩
def spSits (K : PySem.W.Frag) : SpG := fun vs H Q _ => ∃ (v x : V) (ra : Addr) (M : MT) (st0 : Int × List Int) (run : List Nat), vs = [v, x, .ref ra] ∧ Dp K H v M.data ∧ Sit K H x st0.1 st0.2 ∧ SqL K H ra (run.map nV) ∧ RunOk M.moves st0 run ∧ run.length ≤ 1000 ∧ (∀ m ∈ M.moves, m.Fit M.states st0.2.length) ∧
  ∀ H' out, Same H H' → DpAll K H' out ((traceT M.moves st0 run).map fun y => sitD y.1 y.2) → Q out H'
theorem gf_situations {f : Addr} {fd : FuncData} (F : Fun K "situations" "situations" s_situations f fd) (D_copied : Fd P w K mg base "copied" ["situation"] 1 (spCopied K)) (D_after : Fd P w K mg base "after" ["machine", "situation", "move"] 2 (spAft K)) : GFn P w K mg base 3 f fd ["machine", "situation", "run"] (spSits K) := by
  refine okG F sc_situations (fun vs H Q E h => ?_) fun cdv A outer s H vs Q E pn hr h => ?_
  · obtain ⟨v, x, ra, M, st0, run, rfl, _⟩ := h
    rfl
  obtain ⟨v, x, ra, M, st0, run, rfl, hd, hx, hra, hrun, hl, hf, q⟩ := h
  refine ⟨_, gss_cons (gs_ps (ps_set (i := 3) sc_situations.nd rfl (Or.inl rfl) (pv 1))) (gss_cons (gs_yield (pe_fn D_copied (hr.mono (by decide)) rfl (pa_cons (pv 3) pa_nil)))
    (gss_cons (gs_for owns_gcx rfl (piL K (pv 2)) (pg_name (i := 4) sc_situations.nd rfl (Or.inl rfl)) (gss_cons (gs_ps (ps_set (i := 3) sc_situations.nd rfl (Or.inl rfl) (pe_fn D_after (hr.mono (by decide)) rfl (pa_cons (pv 0) (pa_cons (pv 3) (pa_cons (pv 4) pa_nil))))))
      (gss_cons (gs_yield (pe_fn D_copied (hr.mono (by decide)) rfl (pa_cons (pv 3) pa_nil))) gss_nil))) gss_nil)), ?_⟩
  refine ⟨_, rfl, ?_⟩
  refine ⟨sz (by decide), _, rfl, x, st0.1, st0.2, rfl, hx, fun H1 p1 s1 new1 => ?_⟩
  refine ⟨_, rfl, ra, rfl, ⟨_, s1.seq hra⟩, fun i m ys σ' H' => m = run.length - i ∧ i ≤ run.length ∧ ∃ (y : V) (y4 : Option V), σ' = [some v, some x, some (.ref ra), some y, y4] ∧ Same H H' ∧ Sit K H' y (endT M.moves st0 (run.take i)).1 (endT M.moves st0 (run.take i)).2 ∧ ys.length = i + 1 ∧ DpAll K H' ys (((List.range (i + 1)).map fun j => endT M.moves st0 (run.take j)).map fun y => sitD y.1 y.2), ⟨run.length, rfl, Nat.zero_le _, x, none, rfl, s1, Same.sit s1 hx, rfl, .cons (sit_dp new1.sit) .nil⟩, ?_⟩
  rintro i m ys σ' H2 ⟨rfl, hi, y, y4, rfl, s2, sit2, yl, dys⟩
  have hra2 := s2.seq hra
  by_cases hlt : i < run.length
  · have hk : run[i]? = some run[i] := List.getElem?_eq_getElem hlt
    obtain ⟨mv, hmv, hcan⟩ := hrun i _ hk
    have hml : (run.map nV)[i]? = some (nV run[i]) := get_map hk
    have hfit : mv.Fit M.states (endT M.moves st0 (run.take i)).2.length := by rw [endT_len]; exact hf mv (List.mem_of_getElem? hmv)
    refine .inr ⟨⟨_, _, hra2, hml⟩, fun ys' σ' H' => i + 1 ≤ run.length ∧ ∃ (y : V) (y4 : Option V), σ' = [some v, some x, some (.ref ra), some y, y4] ∧ Same H H' ∧ Sit K H' y (endT M.moves st0 (run.take (i + 1))).1 (endT M.moves st0 (run.take (i + 1))).2 ∧ ys'.length = i + 2 ∧ DpAll K H' ys' (((List.range (i + 2)).map fun j => endT M.moves st0 (run.take j)).map fun y => sitD y.1 y.2), fun ys' σ' H' h => ⟨run.length - (i + 1), by omega, rfl, h⟩, ?_⟩
    rintro u H3 ⟨rfl, hu⟩
    have hu := hu _ hra2
    rw [hml] at hu
    cases hu
    refine ⟨_, rfl, _, rfl, _, rfl, v, y, M, run[i], mv, _, _, rfl, dp_mono s2 hd, sit2, hmv, hcan, hfit, fun H4 p4 s4 new4 => ?_⟩
    refine ⟨sz (by omega), _, rfl, _, _, _, rfl, new4.sit, fun H5 p5 s5 new5 => ?_⟩
    have e1 : endT M.moves st0 (run.take (i + 1)) = ((mv.ns : Int), mv.aft (endT M.moves st0 (run.take i)).2) := by
      rw [take_snoc hk, endT_snoc, stepT_at hmv]
    refine ⟨hlt, _, _, rfl, s2.trans (s4.trans s5), ?_, ?_, ?_⟩
    · rw [e1]
      exact Same.sit s5 new4.sit
    · rw [List.length_append, yl]
      rfl
    · rw [List.range_succ, List.map_append, List.map_append]
      refine dpa_app (dpAll_mono (s4.trans s5) dys) (.cons ?_ .nil)
      show Dp K H5 (.ref p5) (sitD (endT M.moves st0 (run.take (i + 1))).1 (endT M.moves st0 (run.take (i + 1))).2)
      rw [e1]
      exact sit_dp new5.sit
  · have e : i = run.length := by omega
    subst e
    exact .inl ⟨⟨_, hra2, by rw [List.length_map]; exact Nat.le_refl _⟩, q H2 ys s2 dys⟩
/-- a generator def that is known -/
structure FdG (P : Program) (w : World) (K : PySem.W.Frag) (mg : Str → Option Value) (base : Heap) (x : Str) (ps : List Str) (k : Nat) (sp : SpG) : Prop where
  ex : ∃ (f : Addr) (fd : FuncData), GFn P w K mg base k f fd ps sp ∧ mg x = some (.ref f) ∧ PySem.W.keepIn K (.ref f) = true ∧ Binds K fd ps []
theorem pe_listF {X : Cx} {x : Str} {ps : List Str} {k : Nat} {sp : SpG} {e : Expr} {es : List Expr} {t : TA} {p p2 pos pos2 : Pos} (F : FdG X.prog X.w X.K X.mg X.base x ps k sp) (hr : Room (k + 3) X.A) (hg : Gl X x) (hl : Gl X "list") (hml : X.mg "list" = none) (ha : PA X (e :: es) t)
    (hdb : (x == ("__debug__" : Str)) = false := by decide) (he : starEach (e :: es) X.env = (false, eval e X.env) :: starEach es X.env := by rfl) (hpl : (backTo pos (starEach es X.env)).any (·.1) = false := by rfl)
    (he2 : starEach [Expr.Call (.Name x p) (e :: es) [] pos] X.env = (false, eval (Expr.Call (.Name x p) (e :: es) [] pos) X.env) :: starEach [] X.env := by rfl) :
    PE X (.Call (.Name "list" p2) [.Call (.Name x p) (e :: es) [] pos] [] pos2) (tListG (tCallG sp [] E0 t)) := by
  obtain ⟨f, fd, G, m, kp, b⟩ := F.ex
  exact pe_listG (pgen_call G (hr.mono (by omega)) hg m kp b .nil ha hdb he hpl) (fun _ _ _ _ _ _ _ c => by
    obtain ⟨_, _, _, _, _, _, _, _, _, _, _, _, h⟩ := c
    exact h.elim) (fun _ _ _ h => h.elim) hr hl hml (by decide +kernel) (by decide) (by decide) he2
theorem fdG_situations {f : Addr} {fd : FuncData} (F : Fun K "situations" "situations" s_situations f fd) (m : mg "situations" = some (.ref f)) (D_copied : Fd P w K mg base "copied" ["situation"] 1 (spCopied K)) (D_after : Fd P w K mg base "after" ["machine", "situation", "move"] 2 (spAft K)) : FdG P w K mg base "situations" ["machine", "situation", "run"] 3 (spSits K) :=
  ⟨f, fd, gf_situations F D_copied D_after, m, F.kp, F.binds (ps := ["machine", "situation", "run"]) fun _ _ _ _ _ _ us hl => match us, hl with | [_, _, _], _ => rfl⟩
abbrev s_follow : Stmt := topS 7
theorem sc_follow : FnScope ["machine", "situation", "run"] ["machine", "situation", "run"] (defScope s_follow) := ⟨rfl, rfl, rfl, by decide +kernel, rfl, by decide +kernel, by decide +kernel⟩
-- follow slots: machine=0 situation=1 run=2 globals: list situations
def spFollow (K : PySem.W.Frag) : Sp := fun vs H Q _ => ∃ (v x : V) (ra : Addr) (M : MT) (st0 : Int × List Int) (run : List Nat), vs = [v, x, .ref ra] ∧ Dp K H v M.data ∧ Sit K H x st0.1 st0.2 ∧ SqL K H ra (run.map nV) ∧ RunOk M.moves st0 run ∧ run.length ≤ 1000 ∧ (∀ m ∈ M.moves, m.Fit M.states st0.2.length) ∧
  ∀ H' p out, Same H H' → H' p = some (.lst out) → DpAll K H' out ((traceT M.moves st0 run).map fun y => sitD y.1 y.2) → Q (.ref p) H'
theorem fd_follow {f : Addr} {fd : FuncData} (F : Fun K "follow" "follow" s_follow f fd) (m : mg "follow" = some (.ref f)) (B : Bt mg) (D_situations : FdG P w K mg base "situations" ["machine", "situation", "run"] 3 (spSits K)) : Fd P w K mg base "follow" ["machine", "situation", "run"] 7 (spFollow K) := by
  refine ⟨f, fd, F.ok sc_follow (fun vs H Q E h => ?_) (fun cdv A outer s H vs Q E hr h => ?_), m, F.kp, F.binds (ps := ["machine", "situation", "run"]) fun _ _ _ _ _ _ us hl => match us, hl with | [_, _, _], _ => rfl⟩
  · obtain ⟨v, x, ra, M, st0, run, rfl, _⟩ := h
    rfl
  obtain ⟨v, x, ra, M, st0, run, rfl, hd, hx, hra, hrun, hl, hf, q⟩ := h
  refine ⟨_, (pss_one (ps_ret (pe_listF D_situations hr rfl rfl B.list (pa_cons (pv 0) (pa_cons (pv 1) (pa_cons (pv 2) pa_nil)))))), ?_⟩
  exact ⟨_, rfl, _, rfl, _, rfl, v, x, ra, M, st0, run, rfl, hd, hx, hra, hrun, hl, hf, fun H' out s1 d p np => q _ p out (s1.trans (same_new np)) upd_same (dpAll_mono (same_new np) d)⟩
abbrev s_scheduled : Stmt := topS 9
theorem sc_scheduled : FnScope ["machine", "situation", "schedule", "choice", "run", "now", "possible", "move"] ["machine", "situation", "schedule"] (defScope s_scheduled) := ⟨rfl, rfl, rfl, by decide +kernel, rfl, by decide +kernel, by decide +kernel⟩
-- scheduled slots: machine=0 situation=1 schedule=2 choice=3 run=4 now=5 possible=6 move=7 globals: OutOfRange possible_moves len after
def spSched (K : PySem.W.Frag) : Sp := fun vs H Q _ => ∃ (v x : V) (za : Addr) (M : MT) (st0 : Int × List Int) (zs : List Int), vs = [v, x, .ref za] ∧ Dp K H v M.data ∧ Sit K H x st0.1 st0.2 ∧ SqL K H za (zs.map V.int) ∧ (∀ z ∈ zs, 0 ≤ z) ∧ zs.length ≤ 1000 ∧ M.moves.length ≤ 1000 ∧ (∀ m ∈ M.moves, m.Fit M.states st0.2.length) ∧
  ∀ H' p, Same H H' → H p = none → H' p = some (.lst ((schedT M.moves st0 zs).map nV)) → Q (.ref p) H'
theorem fd_scheduled {f : Addr} {fd : FuncData} (F : Fun K "scheduled" "scheduled" s_scheduled f fd) (m : mg "scheduled" = some (.ref f)) (B : Bt mg) (D_possible_moves : Fd P w K mg base "possible_moves" ["machine", "situation"] 2 (spPoss K)) (D_after : Fd P w K mg base "after" ["machine", "situation", "move"] 2 (spAft K)) : Fd P w K mg base "scheduled" ["machine", "situation", "schedule"] 3 (spSched K) := by
  refine ⟨f, fd, F.ok sc_scheduled (fun vs H Q E h => ?_) (fun cdv A outer s H vs Q E hr h => ?_), m, F.kp, F.binds (ps := ["machine", "situation", "schedule"]) fun _ _ _ _ _ _ us hl => match us, hl with | [_, _, _], _ => rfl⟩
  · obtain ⟨v, x, za, M, st0, zs, rfl, _⟩ := h
    rfl
  obtain ⟨v, x, za, M, st0, zs, rfl, hd, hx, hza, hz0, hl, hml, hf, q⟩ := h
  refine ⟨_, (pss_cons (ps_for PassesOwn.never rfl (piL K (pv 2)) (pg_name (i := 3) sc_scheduled.nd rfl (Or.inl rfl))
 (pss_one (ps_if (pt_cmpR op_lt (pv 3) pe_int (nomark _))
 (pss_one ps_never)
 pss_nil)))
 (pss_cons (ps_set (i := 4) sc_scheduled.nd rfl (Or.inl rfl) (pe_lst pa_nil))
 (pss_cons (ps_set (i := 5) sc_scheduled.nd rfl (Or.inl rfl) (pv 1))
 (pss_cons (ps_for PassesOwn.never rfl (piL K (pv 2)) (pg_name (i := 3) sc_scheduled.nd rfl (Or.inl rfl))
 (pss_cons (ps_set (i := 6) sc_scheduled.nd rfl (Or.inl rfl) (pe_fn D_possible_moves (hr.mono (by decide)) rfl (pa_cons (pv 0) (pa_cons (pv 5) pa_nil))))
 (pss_cons (ps_if (pt_not (ptTru K (pv 6) (by intro _; rfl)))
 (pss_one (ps_ret (pv 4)))
 pss_nil)
 (pss_cons (ps_set (i := 7) sc_scheduled.nd rfl (Or.inl rfl) (pe_ix (ixL K) (pv 6) (pe_op op_mod (pv 3) (pe_callB (cLen K) (by rfl) B.len PySem.boot_len (pa_cons (pv 6) pa_nil))) (fun _ _ => rfl)))
 (pss_cons (ps_expr (peBm K PySem.F.plainAttrs_list PySem.F.slot_list_append PySem.F.type_list_append mt_append (pv 4) (pa_cons (pv 7) pa_nil)))
 (pss_one (ps_set (i := 5) sc_scheduled.nd rfl (Or.inl rfl) (pe_fn D_after (hr.mono (by decide)) rfl (pa_cons (pv 0) (pa_cons (pv 5) (pa_cons (pv 7) pa_nil)))))))))))
 (pss_one (ps_ret (pv 4))))))), ?_⟩
  refine ⟨_, rfl, za, rfl, ⟨_, hza⟩, for_list (xs := zs.map V.int) (fun i σ' H' => ∃ y3 : Option V, σ' = [some v, some x, some (.ref za), y3, none, none, none, none] ∧ H' = H) ⟨none, rfl, rfl⟩ ?_ ?_ ?_⟩
  · rintro i σ' H' _ ⟨y3, rfl, rfl⟩
    exact hza
  · rintro i u σ' H' hu ⟨y3, rfl, rfl⟩
    obtain ⟨z, hz, rfl⟩ := get_map_inv hu
    have := hz0 z (List.mem_of_getElem? hz)
    refine ⟨_, rfl, _, _, rfl, rfl, _, rfl, ?_⟩
    rw [decide_eq_false (show ¬ z < 0 by omega)]
    exact iteF ⟨_, rfl, rfl⟩
  rintro σ' H' ⟨y3, rfl, rfl⟩
  refine ⟨sz (by decide), fun o no => ?_⟩
  dsimp only [gName]
  refine ⟨_, rfl, ?_⟩
  dsimp only [gName]
  have s0 := same_new (o := HO.lst []) no
  refine ⟨_, rfl, za, rfl, ⟨_, s0.seq hza⟩, for_list (xs := zs.map V.int) (fun i σ' H2 => ∃ (y : V) (y3 y6 y7 : Option V), σ' = [some v, some x, some (.ref za), y3, some (.ref o), some y, y6, y7] ∧ Same H' H2 ∧ H2 o = some (.lst ((schedT M.moves st0 (zs.take i)).map nV)) ∧ (schedT M.moves st0 (zs.take i)).length = i ∧ Sit K (Ho o H2) y (endT M.moves st0 (schedT M.moves st0 (zs.take i))).1 (endT M.moves st0 (schedT M.moves st0 (zs.take i))).2) ⟨x, _, _, _, rfl, s0, upd_same, rfl, Same.sit (ho_first no) hx⟩ ?_ ?_ ?_⟩
  · rintro i σ' H2 _ ⟨y, y3, y6, y7, rfl, s2, _⟩
    exact s2.seq hza
  · rintro i u σ' H2 hu ⟨y, y3, y6, y7, rfl, s2, eo, sl, sit⟩
    obtain ⟨z, hz, rfl⟩ := get_map_inv hu
    have hi : i < zs.length := (List.getElem?_eq_some_iff.mp hz).1
    have hlen : (endT M.moves st0 (schedT M.moves st0 (zs.take i))).2.length = st0.2.length := endT_len _ _ _
    have hsp := sched_take M.moves i zs st0 (by omega) sl
    have hsn := fun hc => sched_snoc (ms := M.moves) (x := st0) hz sl hc
    have hen := endT_snoc M.moves st0 (schedT M.moves st0 (zs.take i))
    generalize schedT M.moves st0 (zs.take i) = rn at eo sl sit hlen hsp hsn hen
    generalize hxx : endT M.moves st0 rn = xx at sit hlen hsp hsn hen
    dsimp only [gName]
    refine ⟨_, rfl, _, rfl, _, _, M, xx.1, xx.2, rfl, dp_mono s2 hd, Same.sit ho_out sit, fun m hm => by rw [hlen]; exact (hf m hm).pl, hml, fun H3 pc s3 nc ec => ?_⟩
    dsimp only [gName]
    have eo3 := s3 _ _ eo
    by_cases hc : canL M.moves xx.1 xx.2 = []
    · refine ⟨_, rfl, false, .inl ⟨_, sq ec, by rw [hc]; rfl⟩, iteT ⟨_, rfl, ?_⟩⟩
      refine q _ o (s2.trans s3) no ?_
      rw [eo3, hsp, sched_end hc, List.append_nil]
    · refine ⟨_, rfl, true, .inl ⟨_, sq ec, by cases h : canL M.moves xx.1 xx.2 with | nil => exact absurd h hc | cons a b => rfl⟩, iteF ?_⟩
      have hp := pick_at hc z
      have hpm := pick_mem hc z
      have hpi := pick_lt hc z
      obtain ⟨mv, hmv, hcan⟩ := mem_canL.mp hpm
      have hcl := List.length_pos_iff.mpr hc
      have hll : ((canL M.moves xx.1 xx.2).map nV).length = (canL M.moves xx.1 xx.2).length := List.length_map _
      have hmd := mod_in z (show (0 : Int) < ((canL M.moves xx.1 xx.2).length : Int) by omega)
      refine ⟨_, rfl, _, rfl, _, rfl, pc, _, rfl, .inl (sq ec), _, _, rfl, rfl, (by show (0 : Int) < (((canL M.moves xx.1 xx.2).map nV).length : Nat); rw [hll]; omega), _, _, _, _, rfl, rfl, sq ec, at_n (j := (z % ((canL M.moves xx.1 xx.2).length : Int)).toNat) (by rw [hll]; exact (Int.toNat_of_nonneg hmd.1).symm) (get_map hp), ?_⟩
      dsimp only [gName]
      change tSeq _ _ _ [some v, some x, some (.ref za), some (.int z), some (.ref o), some y, some (.ref pc), some (nV (pickT M.moves xx z))] H3
      refine ⟨_, rfl, .inl ⟨rfl, _, sq eo3⟩, _, rfl, o, _, _, rfl, rfl, eo3, szl (by rw [List.length_map]; omega), ?_⟩
      have s4 : Same H' (upd H3 o (.lst (rn.map nV ++ [nV (pickT M.moves xx z)]))) := Same.mut (s2.trans s3) no
      have sit4 : Sit K (Ho o (upd H3 o (.lst (rn.map nV ++ [nV (pickT M.moves xx z)])))) y xx.1 xx.2 := Same.sit ((ho_same s3).trans ho_mut) sit
      have eo4 : (upd H3 o (.lst (rn.map nV ++ [nV (pickT M.moves xx z)]))) o = some (.lst ((rn ++ [pickT M.moves xx z]).map nV)) := by rw [upd_same, List.map_append]; rfl
      have hfit : mv.Fit M.states xx.2.length := by rw [hlen]; exact hf mv (List.mem_of_getElem? hmv)
      refine ⟨_, rfl, _, rfl, _, rfl, v, y, M, pickT M.moves xx z, mv, xx.1, xx.2, rfl, dp_mono s4 hd, Same.sit ho_out sit4, hmv, hcan, hfit, fun H5 p5 s5 new5 => ?_⟩
      refine ⟨_, _, _, _, rfl, s4.trans s5, ?_, ?_, ?_⟩
      · rw [hsn hc]
        exact s5 _ _ eo4
      · rw [hsn hc, List.length_append, sl]
        rfl
      · rw [hsn hc, hen, stepT_at hmv]
        exact new5.ho eo4
  · rintro σ' H2 ⟨y, y3, y6, y7, rfl, s2, eo, sl, sit⟩
    rw [List.length_map, List.take_length] at eo
    exact ⟨_, rfl, q _ o s2 no eo⟩
end
/-! ### what the laws of machines share -/
theorem dpa_nVs {K : PySem.W.Frag} {H : Hp} (ks : List Nat) : DpAll K H (ks.map nV) (ks.map nD) := by
  induction ks with
  | nil => exact .nil
  | cons k r ih => exact .cons (.int _) ih
theorem nats_nc {m : Nat} : ∀ {ks : List Nat}, (∀ k ∈ ks, k < 100) → NcL (ks.map nD) ks.length m
  | [], _ => .nil
  | k :: r, h => (NcL.cons (nD_nc (h k List.mem_cons_self)) (nats_nc fun x hx => h x (List.mem_cons_of_mem _ hx))).mono (by rw [List.length_cons]; omega) (Nat.le_refl _)
theorem inV_nats (k : Nat) : ∀ ks : List Nat, inV (nV k) (ks.map nV) = decide (k ∈ ks)
  | [] => rfl
  | j :: r => by
    have ih := inV_nats k r
    show (eqV (nV j) (nV k) || inV (nV k) (r.map nV)) = _
    rw [ih]
    by_cases h : j = k
    · subst h
      rw [decide_eq_true (List.mem_cons_self)]
      have : eqV (nV j) (nV j) = true := by
        show decide (_ = _) = true
        exact decide_eq_true rfl
      rw [this]
      rfl
    · have : eqV (nV j) (nV k) = false := by
        show decide (_ = _) = false
        exact decide_eq_false fun z => h (by omega)
      rw [this, Bool.false_or]
      exact decide_eq_decide.mpr ⟨fun x => List.mem_cons_of_mem _ x, fun x => by
        rcases List.mem_cons.mp x with e | e
        · exact absurd e.symm h
        · exact e⟩
theorem flat_nats (ks : List Nat) : (ks.map nV).all flatV = true := by
  rw [List.all_eq_true]
  intro v hv
  obtain ⟨s, _, rfl⟩ := List.mem_map.mp hv
  rfl
theorem NewSit.mut {K : PySem.W.Frag} {H H' : Hp} {p b : Addr} {s : Int} {cs : List Int} {o u : HO} (h : NewSit H H' p s cs) (e : H b = some o) : Sit K (upd H' b u) (.ref p) s cs := by
  obtain ⟨ca, n1, n2, _, h1, h2⟩ := h
  have a1 : p ≠ b := fun z => by rw [z, e] at n1; cases n1
  have a2 : ca ≠ b := fun z => by rw [z, e] at n2; cases n2
  exact ⟨p, ca, rfl, st (by rw [upd_ne a1]; exact h1), sq (by rw [upd_ne a2]; exact h2)⟩
theorem can_lt {ms : List MvT} {s : Int} {cs : List Int} (hl : ms.length ≤ 12) : ∀ k ∈ canL ms s cs, k < 100 := fun k hk => by
  obtain ⟨m, hm, _⟩ := mem_canL.mp hk
  have := (List.getElem?_eq_some_iff.mp hm).1
  omega
theorem can_len (ms : List MvT) (s : Int) (cs : List Int) : (canL ms s cs).length ≤ ms.length := filt_len _ _
theorem bump_bd {cs : List Int} {k : Nat} {z : Int} {B C : Nat} (h : ∀ c ∈ cs, c.natAbs ≤ B) (hk : k < cs.length) (hz : B + z.natAbs ≤ C) : ∀ c ∈ bump cs k z, c.natAbs ≤ C := fun c hc => by
  unfold bump at hc
  rcases List.mem_or_eq_of_mem_set hc with hc | rfl
  · have := h c hc
    omega
  · have := h _ (gd_mem hk)
    omega
theorem shiftAll_bd {B : Nat} : ∀ (sh : List (Nat × Nat)) (cs : List Int), (∀ c ∈ cs, c.natAbs ≤ B) → (∀ p ∈ sh, p.1 < cs.length ∧ p.2 < cs.length) → ∀ c ∈ shiftAll sh cs, c.natAbs ≤ B * 2 ^ sh.length
  | [], cs, h, _ => fun c hc => by have := h c hc; simpa using this
  | p :: r, cs, h, hp => fun c hc => by
    obtain ⟨p1, p2⟩ := hp p List.mem_cons_self
    have a1 := h _ (gd_mem p1)
    have a2 := h _ (gd_mem p2)
    have := shiftAll_bd (B := 2 * B) r ((cs.set p.2 (cs.getD p.2 0 + cs.getD p.1 0)).set p.1 0) (fun c hc => by
      rcases List.mem_or_eq_of_mem_set hc with hc | rfl
      · rcases List.mem_or_eq_of_mem_set hc with hc | rfl
        · have := h c hc; omega
        · omega
      · show (0 : Int).natAbs ≤ _
        exact Nat.zero_le _) (fun q hq => by rw [List.length_set, List.length_set]; exact hp q (List.mem_cons_of_mem _ hq)) c hc
    rw [List.length_cons, Nat.pow_succ]
    calc c.natAbs ≤ 2 * B * 2 ^ r.length := this
      _ = B * (2 ^ r.length * 2) := by rw [Nat.mul_comm 2 B, Nat.mul_assoc, Nat.mul_comm 2]
theorem aft_bd {m : MvT} {S B : Nat} {cs : List Int} (hf : m.Fit S cs.length) (h6 : m.sh.length ≤ 6) (h : ∀ c ∈ cs, c.natAbs ≤ B) : ∀ c ∈ m.aft cs, c.natAbs ≤ 64 * (B + 1) + 2 := by
  have h1 : ∀ c ∈ bump cs m.pl (-1), c.natAbs ≤ B + 1 := bump_bd h hf.pl (Nat.le_refl _)
  have h2 : ∀ c ∈ m.mid cs, c.natAbs ≤ 64 * (B + 1) := fun c hc => by
    have := shiftAll_bd m.sh _ h1 (fun p hp => by rw [bump_len]; exact ⟨hf.sh.fst p hp, hf.sh.snd p hp⟩) c hc
    have h3 : 2 ^ m.sh.length ≤ 2 ^ 6 := Nat.pow_le_pow_right (by decide) h6
    calc c.natAbs ≤ (B + 1) * 2 ^ m.sh.length := this
      _ ≤ (B + 1) * 2 ^ 6 := Nat.mul_le_mul_left _ h3
      _ = 64 * (B + 1) := Nat.mul_comm _ _
  have h3 : ∀ c ∈ bump (m.mid cs) m.np 1, c.natAbs ≤ 64 * (B + 1) + 1 := bump_bd h2 (by rw [mid_len]; exact hf.np) (Nat.le_refl _)
  unfold MvT.aft
  split
  · intro c hc
    have := h3 c hc
    omega
  · rename_i d hd
    exact bump_bd h3 (by rw [bump_len, mid_len]; exact hf.sd d hd) (Nat.le_refl _)
theorem inV_can {ms : List MvT} {s : Int} {cs : List Int} {k : Nat} {m : MvT} (h : ms[k]? = some m) : inV (.int ((0 : Int) + (k : Int))) ((canL ms s cs).map nV) = m.can s cs := by
  rw [Int.zero_add]
  have e := inV_nats k (canL ms s cs)
  have e2 : decide (k ∈ canL ms s cs) = m.can s cs := by
    cases hc : m.can s cs with
    | true => exact decide_eq_true (mem_canL.mpr ⟨m, h, hc⟩)
    | false =>
      refine decide_eq_false fun z => ?_
      obtain ⟨m', h', c'⟩ := mem_canL.mp z
      rw [h] at h'
      cases h'
      rw [hc] at c'
      cases c'
  rw [e2] at e
  exact e
/-! ### threads are counted -/
theorem sum_set : ∀ {cs : List Int} {k : Nat} {v : Int}, k < cs.length → (cs.set k v).sum = cs.sum - cs.getD k 0 + v
  | [], k, v, h => absurd h (by simp)
  | c :: r, 0, v, _ => by
    show v + r.sum = c + r.sum - c + v
    omega
  | c :: r, k + 1, v, h => by
    have ih := sum_set (cs := r) (k := k) (v := v) (Nat.lt_of_succ_lt_succ h)
    show c + (r.set k v).sum = c + r.sum - r.getD k 0 + v
    rw [ih]
    omega
theorem getD_set {cs : List Int} {k j : Nat} {v : Int} (h : k < cs.length) : (cs.set k v).getD j 0 = if k = j then v else cs.getD j 0 := by
  rw [List.getD_eq_getElem?_getD, List.getD_eq_getElem?_getD, List.getElem?_set]
  by_cases e : k = j
  · rw [if_pos e, if_pos e, if_pos h]
    rfl
  · rw [if_neg e, if_neg e]
theorem bump_sum {cs : List Int} {k : Nat} {z : Int} (h : k < cs.length) : (bump cs k z).sum = cs.sum + z := by
  unfold bump
  rw [sum_set h]
  omega
theorem bump_at {cs : List Int} {k j : Nat} {z : Int} (h : k < cs.length) : (bump cs k z).getD j 0 = cs.getD j 0 + if k = j then z else 0 := by
  unfold bump
  rw [getD_set h]
  by_cases e : k = j
  · rw [if_pos e, if_pos e, e]
  · rw [if_neg e, if_neg e]
    omega
theorem shift_sum : ∀ (sh : List (Nat × Nat)) (cs : List Int), (∀ p ∈ sh, p.1 < cs.length ∧ p.2 < cs.length ∧ p.2 ≠ p.1) → (shiftAll sh cs).sum = cs.sum
  | [], _, _ => rfl
  | p :: r, cs, h => by
    obtain ⟨h1, h2, h3⟩ := h p List.mem_cons_self
    have ih := shift_sum r ((cs.set p.2 (cs.getD p.2 0 + cs.getD p.1 0)).set p.1 0) (fun q hq => by
      rw [List.length_set, List.length_set]
      exact h q (List.mem_cons_of_mem _ hq))
    show (shiftAll r _).sum = _
    rw [ih, sum_set (by rw [List.length_set]; exact h1), getD_set h2, if_neg h3, sum_set h2]
    omega
theorem shift_keep0 : ∀ (sh : List (Nat × Nat)) (cs : List Int) (j : Nat), (∀ p ∈ sh, p.1 < cs.length ∧ p.2 < cs.length ∧ p.2 ≠ j) → cs.getD j 0 = 0 → (shiftAll sh cs).getD j 0 = 0
  | [], _, _, _, h0 => h0
  | p :: r, cs, j, h, h0 => by
    obtain ⟨h1, h2, h3⟩ := h p List.mem_cons_self
    refine shift_keep0 r _ j (fun q hq => ?_) ?_
    · rw [List.length_set, List.length_set]
      exact h q (List.mem_cons_of_mem _ hq)
    · rw [getD_set (by rw [List.length_set]; exact h1), getD_set h2, if_neg h3, h0]
      split <;> rfl
theorem shift_zero : ∀ (sh : List (Nat × Nat)) (cs : List Int) (j : Nat), (∀ p ∈ sh, p.1 < cs.length ∧ p.2 < cs.length ∧ p.2 ≠ j) → j ∈ sh.map (·.1) → (shiftAll sh cs).getD j 0 = 0
  | [], _, _, _, hj => by cases hj
  | p :: r, cs, j, h, hj => by
    obtain ⟨h1, h2, h3⟩ := h p List.mem_cons_self
    have hr : ∀ q ∈ r, q.1 < ((cs.set p.2 (cs.getD p.2 0 + cs.getD p.1 0)).set p.1 0).length ∧ q.2 < ((cs.set p.2 (cs.getD p.2 0 + cs.getD p.1 0)).set p.1 0).length ∧ q.2 ≠ j := fun q hq => by
      rw [List.length_set, List.length_set]
      exact h q (List.mem_cons_of_mem _ hq)
    by_cases e : p.1 = j
    · refine shift_keep0 r _ j hr ?_
      rw [getD_set (by rw [List.length_set]; exact h1), if_pos e]
    · refine shift_zero r _ j hr ?_
      rcases List.mem_cons.mp hj with e2 | e2
      · exact absurd e2.symm e
      · exact e2
theorem shift_nn : ∀ (sh : List (Nat × Nat)) (cs : List Int), (∀ p ∈ sh, p.1 < cs.length ∧ p.2 < cs.length) → (∀ c ∈ cs, 0 ≤ c) → ∀ c ∈ shiftAll sh cs, 0 ≤ c
  | [], _, _, h0 => h0
  | p :: r, cs, h, h0 => by
    obtain ⟨h1, h2⟩ := h p List.mem_cons_self
    refine shift_nn r _ (fun q hq => ?_) fun c hc => ?_
    · rw [List.length_set, List.length_set]
      exact h q (List.mem_cons_of_mem _ hq)
    · rcases List.mem_or_eq_of_mem_set hc with hc | rfl
      · rcases List.mem_or_eq_of_mem_set hc with hc | rfl
        · exact h0 c hc
        · have := h0 _ (gd_mem h1)
          have := h0 _ (gd_mem h2)
          omega
      · exact Int.le_refl _
theorem bump_nn {cs : List Int} {k : Nat} {z : Int} (h : k < cs.length) (h0 : ∀ c ∈ cs, 0 ≤ c) (hz : 0 ≤ cs.getD k 0 + z) : ∀ c ∈ bump cs k z, 0 ≤ c := fun c hc => by
  unfold bump at hc
  rcases List.mem_or_eq_of_mem_set hc with hc | rfl
  · exact h0 c hc
  · exact hz
def sdN : Option Nat → Int
  | none => 0
  | some _ => 1
theorem mid_nn {m : MvT} {S : Nat} {cs : List Int} (hf : m.Fit S cs.length) {s : Int} (hc : m.can s cs = true) (h0 : ∀ c ∈ cs, 0 ≤ c) : ∀ c ∈ m.mid cs, 0 ≤ c := by
  unfold MvT.can at hc
  rw [Bool.and_eq_true] at hc
  have h1 := of_decide_eq_true hc.2
  exact shift_nn m.sh _ (fun p hp => by rw [bump_len]; exact ⟨hf.sh.fst p hp, hf.sh.snd p hp⟩) (bump_nn hf.pl h0 (by omega))
theorem mid_sum {m : MvT} {S : Nat} {cs : List Int} (hf : m.Fit S cs.length) : (m.mid cs).sum = cs.sum - 1 := by
  unfold MvT.mid
  rw [shift_sum m.sh _ (fun p hp => by rw [bump_len]; exact ⟨hf.sh.fst p hp, hf.sh.snd p hp, hf.sh.sep p hp p hp⟩), bump_sum hf.pl]
  omega
theorem aft_nn {m : MvT} {S : Nat} {cs : List Int} (hf : m.Fit S cs.length) {s : Int} (hc : m.can s cs = true) (h0 : ∀ c ∈ cs, 0 ≤ c) : ∀ c ∈ m.aft cs, 0 ≤ c := by
  have h1 := mid_nn hf hc h0
  have h2 : ∀ c ∈ bump (m.mid cs) m.np 1, 0 ≤ c := bump_nn (by rw [mid_len]; exact hf.np) h1 (by have := h1 _ (gd_mem (ds := m.mid cs) (i := m.np) (by rw [mid_len]; exact hf.np)); omega)
  unfold MvT.aft
  split
  · exact h2
  · rename_i d hd
    have hl : d < (bump (m.mid cs) m.np 1).length := by rw [bump_len, mid_len]; exact hf.sd d hd
    exact bump_nn hl h2 (by have := h2 _ (gd_mem hl); omega)
theorem aft_sum {m : MvT} {S : Nat} {cs : List Int} (hf : m.Fit S cs.length) : (m.aft cs).sum = cs.sum + sdN m.sd := by
  have h1 := mid_sum hf
  have h2 : (bump (m.mid cs) m.np 1).sum = cs.sum := by rw [bump_sum (by rw [mid_len]; exact hf.np), h1]; omega
  unfold MvT.aft
  cases hd : m.sd with
  | none =>
    show (bump (m.mid cs) m.np 1).sum = cs.sum + 0
    omega
  | some d =>
    show (bump (bump (m.mid cs) m.np 1) d 1).sum = cs.sum + 1
    rw [bump_sum (by rw [bump_len, mid_len]; exact hf.sd d hd), h2]
theorem aft_first {m : MvT} {S : Nat} {cs : List Int} (hf : m.Fit S cs.length) {p : Nat × Nat} (hp : p ∈ m.sh) : (m.aft cs).getD p.1 0 = (if m.np = p.1 then 1 else 0) + (if m.sd = some p.1 then 1 else 0) := by
  have h1 : (m.mid cs).getD p.1 0 = 0 := shift_zero m.sh _ p.1 (fun q hq => by rw [bump_len]; exact ⟨hf.sh.fst q hq, hf.sh.snd q hq, hf.sh.sep q hq p hp⟩) (List.mem_map_of_mem hp)
  have h2 : (bump (m.mid cs) m.np 1).getD p.1 0 = if m.np = p.1 then 1 else 0 := by rw [bump_at (by rw [mid_len]; exact hf.np), h1, Int.zero_add]
  unfold MvT.aft
  cases hd : m.sd with
  | none =>
    show (bump (m.mid cs) m.np 1).getD p.1 0 = _
    rw [h2, if_neg (show ¬ (none : Option Nat) = some p.1 by intro z; cases z), Int.add_zero]
  | some d =>
    show (bump (bump (m.mid cs) m.np 1) d 1).getD p.1 0 = _
    rw [bump_at (by rw [bump_len, mid_len]; exact hf.sd d hd), h2]
    by_cases e : d = p.1
    · rw [if_pos e, if_pos (show some d = some p.1 from congrArg some e)]
    · rw [if_neg e, if_neg (show ¬ some d = some p.1 from fun z => e (Option.some.inj z))]
theorem le_sum : ∀ {cs : List Int}, (∀ c ∈ cs, 0 ≤ c) → (∀ c ∈ cs, c ≤ cs.sum) ∧ 0 ≤ cs.sum
  | [], _ => ⟨fun c hc => (by cases hc), Int.le_refl _⟩
  | c :: r, h => by
    obtain ⟨h1, h2⟩ := le_sum fun x hx => h x (List.mem_cons_of_mem c hx)
    have h0 := h c List.mem_cons_self
    refine ⟨fun x hx => ?_, ?_⟩
    · show x ≤ c + r.sum
      rcases List.mem_cons.mp hx with rfl | hx
      · omega
      · have := h1 x hx
        omega
    · show 0 ≤ c + r.sum
      omega
/-- along a run -/
structure Along (S : Nat) (x0 x : Int × List Int) (i : Nat) : Prop where
  len : x.2.length = x0.2.length
  nn : ∀ c ∈ x.2, 0 ≤ c
  lo : 0 ≤ x.1
  hi : x.1 < S
  sum : x.2.sum ≤ x0.2.sum + i
theorem along {ms : List MvT} {S : Nat} {x0 : Int × List Int} (hf : ∀ m ∈ ms, m.Fit S x0.2.length) (h0 : ∀ c ∈ x0.2, 0 ≤ c) (hs : 0 ≤ x0.1 ∧ x0.1 < S) {run : List Nat} (hr : RunOk ms x0 run) : ∀ i, i ≤ run.length → Along S x0 (endT ms x0 (run.take i)) i
  | 0, _ => ⟨rfl, h0, hs.1, hs.2, by show x0.2.sum ≤ _; omega⟩
  | i + 1, hi => by
    have ih := along hf h0 hs hr i (by omega)
    have hk : run[i]? = some run[i] := List.getElem?_eq_getElem (by omega)
    obtain ⟨m, hm, hc⟩ := hr i _ hk
    rw [take_snoc hk, endT_snoc, stepT_at hm]
    have hfm : m.Fit S (endT ms x0 (run.take i)).2.length := by rw [ih.len]; exact hf m (List.mem_of_getElem? hm)
    have := hfm.ns
    have hsum := aft_sum hfm
    have hle := ih.sum
    refine ⟨(aft_len _ _).trans ih.len, aft_nn hfm hc ih.nn, (by show (0 : Int) ≤ (m.ns : Int); omega), (by show (m.ns : Int) < S; omega), ?_⟩
    show (m.aft (endT ms x0 (run.take i)).2).sum ≤ _
    rw [hsum]
    have : sdN m.sd ≤ 1 := by unfold sdN; split <;> decide
    omega
theorem Along.bd {S : Nat} {x0 x : Int × List Int} {i : Nat} (h : Along S x0 x i) {B : Int} (hB : x0.2.sum + i ≤ B) : ∀ c ∈ x.2, 0 ≤ c ∧ c ≤ B := fun c hc => ⟨h.nn c hc, by have := (le_sum h.nn).1 c hc; have := h.sum; omega⟩
/-! ### the situation that the laws draw -/
theorem cut_seven {x0 x1 x2 x3 x4 x5 x6 : V} {P : Nat} (h1 : 1 ≤ P) (h6 : P ≤ 6) : cutV [x0, x1, x2, x3, x4, x5, x6] (some 1) (some (1 + (P : Int))) = [x1, x2, x3, x4, x5, x6].take P := by
  have : P = 1 ∨ P = 2 ∨ P = 3 ∨ P = 4 ∨ P = 5 ∨ P = 6 := by omega
  rcases this with rfl | rfl | rfl | rfl | rfl | rfl <;> rfl
theorem sum_take4 {x1 x2 x3 x4 x5 x6 : Int} (h1 : 0 ≤ x1 ∧ x1 < 4) (h2 : 0 ≤ x2 ∧ x2 < 4) (h3 : 0 ≤ x3 ∧ x3 < 4) (h4 : 0 ≤ x4 ∧ x4 < 4) (h5 : 0 ≤ x5 ∧ x5 < 4) (h6 : 0 ≤ x6 ∧ x6 < 4) {P : Nat} (hP : 1 ≤ P) (hP6 : P ≤ 6) : ([x1, x2, x3, x4, x5, x6].take P).sum ≤ 18 := by
  have : P = 1 ∨ P = 2 ∨ P = 3 ∨ P = 4 ∨ P = 5 ∨ P = 6 := by omega
  rcases this with rfl | rfl | rfl | rfl | rfl | rfl <;> simp [List.take] <;> omega
/-! ### more threads -/
structure GeT (x y : Int × List Int) : Prop where
  st : x.1 = y.1
  len : x.2.length = y.2.length
  ge : ∀ i, y.2.getD i 0 ≤ x.2.getD i 0
theorem bump_ge {ms ns : List Int} {k : Nat} {z : Int} (hl : ms.length = ns.length) (hk : k < ns.length) (h : ∀ i, ns.getD i 0 ≤ ms.getD i 0) : ∀ i, (bump ns k z).getD i 0 ≤ (bump ms k z).getD i 0 := fun i => by
  have := h i
  rw [bump_at hk, bump_at (by omega)]
  omega
theorem shift_ge : ∀ (sh : List (Nat × Nat)) {ms ns : List Int}, ms.length = ns.length → (∀ p ∈ sh, p.1 < ns.length ∧ p.2 < ns.length) → (∀ i, ns.getD i 0 ≤ ms.getD i 0) → ∀ i, (shiftAll sh ns).getD i 0 ≤ (shiftAll sh ms).getD i 0
  | [], _, _, _, _, h => h
  | p :: r, ms, ns, hl, hp, h => by
    obtain ⟨h1, h2⟩ := hp p List.mem_cons_self
    refine shift_ge r (by rw [List.length_set, List.length_set, List.length_set, List.length_set]; exact hl) (fun q hq => by rw [List.length_set, List.length_set]; exact hp q (List.mem_cons_of_mem _ hq)) fun i => ?_
    have a1 := h i
    have a2 := h p.1
    have a3 := h p.2
    show ((ns.set p.2 (ns.getD p.2 0 + ns.getD p.1 0)).set p.1 0).getD i 0 ≤ ((ms.set p.2 (ms.getD p.2 0 + ms.getD p.1 0)).set p.1 0).getD i 0
    rw [getD_set (cs := ns.set p.2 (ns.getD p.2 0 + ns.getD p.1 0)) (by rw [List.length_set]; exact h1), getD_set (cs := ms.set p.2 (ms.getD p.2 0 + ms.getD p.1 0)) (by rw [List.length_set]; omega), getD_set (cs := ns) h2, getD_set (cs := ms) (by omega)]
    split
    · exact Int.le_refl _
    · split <;> omega
theorem aft_ge {m : MvT} {S : Nat} {ms ns : List Int} (hf : m.Fit S ns.length) (hl : ms.length = ns.length) (h : ∀ i, ns.getD i 0 ≤ ms.getD i 0) : ∀ i, (m.aft ns).getD i 0 ≤ (m.aft ms).getD i 0 := by
  have h1 := bump_ge (z := -1) hl hf.pl h
  have h2 : ∀ i, (m.mid ns).getD i 0 ≤ (m.mid ms).getD i 0 := shift_ge m.sh (by rw [bump_len, bump_len]; exact hl) (fun p hp => by rw [bump_len]; exact ⟨hf.sh.fst p hp, hf.sh.snd p hp⟩) h1
  have h3 := bump_ge (z := 1) (k := m.np) (by rw [mid_len, mid_len]; exact hl) (by rw [mid_len]; exact hf.np) h2
  unfold MvT.aft
  cases hd : m.sd with
  | none => exact h3
  | some d => exact bump_ge (by rw [bump_len, bump_len, mid_len, mid_len]; exact hl) (by rw [bump_len, mid_len]; exact hf.sd d hd) h3
theorem can_ge {m : MvT} {x y : Int × List Int} (g : GeT x y) (hc : m.can y.1 y.2 = true) : m.can x.1 x.2 = true := by
  unfold MvT.can at hc ⊢
  rw [Bool.and_eq_true] at hc ⊢
  have h1 := of_decide_eq_true hc.1
  have h2 := of_decide_eq_true hc.2
  have := g.ge m.pl
  have := g.st
  exact ⟨decide_eq_true (by omega), decide_eq_true (by omega)⟩
theorem stepT_ge {ms : List MvT} {S : Nat} {x y : Int × List Int} (hf : ∀ m ∈ ms, m.Fit S y.2.length) (g : GeT x y) (k : Nat) : GeT (stepT ms x k) (stepT ms y k) := by
  unfold stepT
  cases hk : ms[k]? with
  | none => exact g
  | some m => exact ⟨rfl, by rw [aft_len, aft_len]; exact g.len, aft_ge (hf m (List.mem_of_getElem? hk)) g.len g.ge⟩
theorem endT_ge {ms : List MvT} {S : Nat} : ∀ (r : List Nat) {x y : Int × List Int}, (∀ m ∈ ms, m.Fit S y.2.length) → GeT x y → GeT (endT ms x r) (endT ms y r)
  | [], _, _, _, g => g
  | k :: r, x, y, hf, g => endT_ge r (fun m hm => by rw [stepT_len]; exact hf m hm) (stepT_ge hf g k)
theorem run_ge {ms : List MvT} {S : Nat} {x y : Int × List Int} {run : List Nat} (hf : ∀ m ∈ ms, m.Fit S y.2.length) (g : GeT x y) (h : RunOk ms y run) : RunOk ms x run := fun i k hk => by
  obtain ⟨m, hm, hc⟩ := h i k hk
  exact ⟨m, hm, can_ge (endT_ge _ hf g) hc⟩
/-- exactly so many more -/
structure AddT (more : List Int) (x y : Int × List Int) : Prop where
  len : x.2.length = y.2.length
  eq : ∀ i, i < y.2.length → x.2.getD i 0 = y.2.getD i 0 + more.getD i 0
theorem bump_add {ms ns more : List Int} {k : Nat} {z : Int} (hl : ms.length = ns.length) (hk : k < ns.length) (h : ∀ i, i < ns.length → ms.getD i 0 = ns.getD i 0 + more.getD i 0) : ∀ i, i < (bump ns k z).length → (bump ms k z).getD i 0 = (bump ns k z).getD i 0 + more.getD i 0 := fun i hi => by
  rw [bump_len] at hi
  have := h i hi
  rw [bump_at hk, bump_at (by omega)]
  omega
theorem aft_add {m : MvT} {S : Nat} {ms ns more : List Int} (hf : m.Fit S ns.length) (h0 : m.sh = []) (hl : ms.length = ns.length) (h : ∀ i, i < ns.length → ms.getD i 0 = ns.getD i 0 + more.getD i 0) : ∀ i, i < (m.aft ns).length → (m.aft ms).getD i 0 = (m.aft ns).getD i 0 + more.getD i 0 := by
  have h1 : ∀ i, i < (m.mid ns).length → (m.mid ms).getD i 0 = (m.mid ns).getD i 0 + more.getD i 0 := by
    unfold MvT.mid
    rw [h0]
    exact bump_add (z := -1) hl hf.pl h
  have h3 := bump_add (z := 1) (k := m.np) (by rw [mid_len, mid_len]; exact hl) (by rw [mid_len]; exact hf.np) h1
  unfold MvT.aft
  cases hd : m.sd with
  | none => exact h3
  | some d => exact bump_add (by rw [bump_len, bump_len, mid_len, mid_len]; exact hl) (by rw [bump_len, mid_len]; exact hf.sd d hd) h3
theorem endT_add {ms : List MvT} {S : Nat} {more : List Int} : ∀ (r : List Nat) {x y : Int × List Int}, (∀ m ∈ ms, m.Fit S y.2.length) → (∀ k ∈ r, ∀ m, ms[k]? = some m → m.sh = []) → AddT more x y → AddT more (endT ms x r) (endT ms y r)
  | [], _, _, _, _, g => g
  | k :: r, x, y, hf, h0, g => by
    refine endT_add r (x := stepT ms x k) (y := stepT ms y k) (fun m hm => by rw [stepT_len]; exact hf m hm) (fun j hj => h0 j (List.mem_cons_of_mem _ hj)) ?_
    have h1 := h0 k List.mem_cons_self
    unfold stepT
    cases hk : ms[k]? with
    | none => exact g
    | some m => exact ⟨by rw [aft_len, aft_len]; exact g.len, aft_add (hf m (List.mem_of_getElem? hk)) (h1 m hk) g.len g.eq⟩
theorem AddT.list {more : List Int} {x y : Int × List Int} {n : Nat} (g : AddT more x y) (hn : y.2.length = n) : x.2 = (List.range n).map fun j => y.2.getD j 0 + more.getD j 0 := by
  refine List.ext_getElem? fun i => ?_
  by_cases hi : i < n
  · rw [List.getElem?_map, List.getElem?_range hi, gd (ds := x.2) (by rw [g.len]; omega), g.eq i (by omega)]
    rfl
  · rw [List.getElem?_eq_none (by rw [g.len]; omega), List.getElem?_eq_none (by rw [List.length_map, List.length_range]; omega)]
theorem sum_le {B : Int} : ∀ {l : List Int}, (∀ c ∈ l, c ≤ B) → l.sum ≤ l.length * B
  | [], _ => by show (0 : Int) ≤ 0 * B; omega
  | c :: r, h => by
    have h1 := sum_le fun x hx => h x (List.mem_cons_of_mem c hx)
    have h2 := h c List.mem_cons_self
    show c + r.sum ≤ ((r.length + 1 : Nat) : Int) * B
    have e : ((r.length + 1 : Nat) : Int) * B = (r.length : Int) * B + B := by
      rw [Int.natCast_add, Int.add_mul]
      show _ + 1 * B = _
      rw [Int.one_mul]
    omega
section
variable {P : Program} {w : World} {K : PySem.W.Frag} {mg : Str → Option Value} {base : Heap}
abbrev s_law_covers : Stmt := topS 18
theorem sc_law_covers : FnScope ["first", "second", "k"] ["first", "second"] (defScope s_law_covers) := ⟨rfl, rfl, rfl, by decide +kernel, rfl, by decide +kernel, by decide +kernel⟩
-- _law_covers slots: first=0(cell) second=1(cell) k=2(None) globals: all range len
def spLGe (K : PySem.W.Frag) : Sp := fun vs H Q _ => ∃ (a b : V) (x y : Int × List Int), vs = [a, b] ∧ Sit K H a x.1 x.2 ∧ Sit K H b y.1 y.2 ∧ GeT x y ∧ y.2.length ≤ 1000 ∧ ∀ H', Same H H' → Q (.bl true) H'
theorem fd_law_covers {f : Addr} {fd : FuncData} (F : Fun K "_law_covers" "_law_covers" s_law_covers f fd) (m : mg "_law_covers" = some (.ref f)) (B : Bt mg) : Fd P w K mg base "_law_covers" ["first", "second"] 1 (spLGe K) := by
  refine ⟨f, fd, F.ok sc_law_covers (fun vs H Q E h => ?_) (fun cdv A outer s H vs Q E hr h => ?_), m, F.kp, F.binds (ps := ["first", "second"]) fun _ _ _ _ _ _ us hl => match us, hl with | [_, _], _ => rfl⟩
  · obtain ⟨a, b, x, y, rfl, _⟩ := h
    rfl
  obtain ⟨_, _, x, y, rfl, ⟨a, ca, rfl, ha, hca⟩, ⟨b, cb, rfl, hb, hcb⟩, g, hl, q⟩ := h
  refine ⟨_, (pss_one (ps_ret (pe_and (pe_cmpR op_eq (pe_ix (ixT K) (pv 0) pe_int (fun _ _ => rfl)) (pe_ix (ixT K) (pv 1) pe_int (fun _ _ => rfl)) (nomark _)) (pe_one (pe_callB (cAll K rfl) (by rfl) B.all (by decide +kernel) (pa_cons (pe_lc (own := [("k", 2)]) (g := gName 2) (by rfl) sc_law_covers.nd (pi_range1 rfl B.range (pa_cons (pe_callB (cLen K) (by rfl) B.len PySem.boot_len (pa_cons (pe_ix (ixT K) (pv 1) pe_int (fun _ _ => rfl)) pa_nil)) pa_nil)) (blkOk_by (own := [("k", 2)]) (N := ["first", "second", "k"]) (sc := (defScope s_law_covers)) (by decide +kernel)) (fun _ _ _ _ _ => (pg_name (i := 2) sc_law_covers.nd rfl (Or.inl rfl))) (fun _ _ _ _ _ => pts_nil) (fun _ _ _ _ _ => (pe_cmpR op_ge (pe_ix (ixL K) (pe_ix (ixT K) (pv 0) pe_int (fun _ _ => rfl)) (pv 2) (fun _ _ => rfl)) (pe_ix (ixL K) (pe_ix (ixT K) (pv 1) pe_int (fun _ _ => rfl)) (pv 2) (fun _ _ => rfl)) (nomark _)))) pa_nil)))))), ?_⟩
  have ll : (y.2.map V.int).length = y.2.length := List.length_map _
  refine ⟨_, rfl, _, _, _, _, rfl, rfl, ha, atI_nat (j := 0) rfl, _, rfl, _, _, _, _, rfl, rfl, hb, atI_nat (j := 0) rfl, rfl, _, rfl, iteTx (decide_eq_true (by rw [g.st])) ?_⟩
  refine ⟨_, rfl, _, _, _, _, rfl, rfl, hb, atI_nat (j := 1) rfl, cb, _, rfl, .inl hcb, _, rfl, by rw [ll]; omega, by rw [ll]; omega, fun D nD => lc_range (lo := 0) (n := (y.2.map V.int).length) (fun i H' => Same H H' ∧ H' D = some (.lst ((List.replicate i true).map V.bl))) ⟨same_new nD, upd_same⟩ ?_ ?_⟩
  · rintro i H' hi ⟨sm, eD⟩
    rw [ll] at hi
    have hz : (0 : Int) + (i : Int) = (i : Int) := by omega
    have hge := g.ge i
    refine ⟨rfl, _, rfl, _, _, _, _, rfl, rfl, Same.seqT sm ha, atI_nat (j := 1) rfl, _, rfl, _, _, _, _, rfl, rfl, sm.seq hca, at_gd hz (by rw [g.len]; exact hi), _, rfl, _, _, _, _, rfl, rfl, Same.seqT sm hb, atI_nat (j := 1) rfl, _, rfl, _, _, _, _, rfl, rfl, sm.seq hcb, at_gd hz hi, _, _, rfl, rfl, _, eD, ?_, Same.mut sm nD, ?_⟩
    · rw [List.length_map, List.length_replicate]
      exact szl (by omega)
    · rw [upd_same, show ((fun i j => V.bl (decide (i ≥ j))) (x.2.getD i 0) (y.2.getD i 0)) = V.bl true from congrArg V.bl (decide_eq_true hge), List.replicate_succ', List.map_append]
      rfl
  · rintro H' ⟨sm, eD⟩
    refine ⟨D, List.replicate (y.2.map V.int).length true, rfl, sq eD, ?_⟩
    have : (List.replicate (y.2.map V.int).length true).all id = true := by
      rw [List.all_eq_true]
      intro z hz
      rw [List.eq_of_mem_replicate hz]
      rfl
    rw [this]
    exact q _ sm
abbrev s_law : Stmt := topS 19
theorem sc_law : FnScope ["script", "machine", "draws", "more", "small", "k", "large", "can", "wide", "move", "run", "first", "second", "plain", "cell", "j"] ["script"] (defScope s_law) := ⟨rfl, rfl, rfl, by decide +kernel, rfl, by decide +kernel, by decide +kernel⟩
-- law slots: script=0 machine=1(cell) draws=2 more=3(cell) small=4(cell) k=5(cell) large=6 can=7 wide=8 move=9 run=10 first=11(cell) second=12 plain=13 cell=14(None) j=15(None) globals: _law_machine _law_cell int _law_draws range possible_moves _law_covers after scheduled follow len all
def spLaw (K : PySem.W.Frag) : Sp := fun vs H Q _ => ∃ (a : Addr) (ns : List Int), vs = [.ref a] ∧ SqL K H a (ns.map V.int) ∧ ns.length ≤ 63 ∧ ∀ H', Q (.bl true) H'
theorem cut_a {x0 x1 x2 x3 x4 x5 x6 y1 y2 y3 y4 y5 y6 : V} {P : Nat} (h1 : 1 ≤ P) (h6 : P ≤ 6) : cutV [x0, x1, x2, x3, x4, x5, x6, y1, y2, y3, y4, y5, y6] (some 1) (some (1 + (P : Int))) = [x1, x2, x3, x4, x5, x6].take P ∧ cutV [x0, x1, x2, x3, x4, x5, x6, y1, y2, y3, y4, y5, y6] (some 7) (some (7 + (P : Int))) = [y1, y2, y3, y4, y5, y6].take P := by
  have : P = 1 ∨ P = 2 ∨ P = 3 ∨ P = 4 ∨ P = 5 ∨ P = 6 := by omega
  rcases this with rfl | rfl | rfl | rfl | rfl | rfl <;> exact ⟨rfl, rfl⟩
theorem fd_law {f : Addr} {fd : FuncData} (F : Fun K "law" "law" s_law f fd) (m : mg "law" = some (.ref f)) (bind : ∀ (s : Shared) (v : Value), BindsTo s fd ⟨[v], []⟩ [("script", v)]) (B : Bt mg)
    (D_law_cell : Fd P w K mg base "_law_cell" ["script", "k"] 1 (spCellA K)) (D_law_draws : Fd P w K mg base "_law_draws" ["cell", "limits"] 1 (spDraws K)) (D_law_machine : Fd P w K mg base "_law_machine" ["cell", "cells", "shifting"] 3 (spMach K)) (D_law_covers : Fd P w K mg base "_law_covers" ["first", "second"] 1 (spLGe K))
    (D_possible_moves : Fd P w K mg base "possible_moves" ["machine", "situation"] 2 (spPoss K)) (D_after : Fd P w K mg base "after" ["machine", "situation", "move"] 2 (spAft K)) (D_scheduled : Fd P w K mg base "scheduled" ["machine", "situation", "schedule"] 3 (spSched K)) (D_follow : Fd P w K mg base "follow" ["machine", "situation", "run"] 7 (spFollow K)) :
    TopOk P w K mg base f (spLaw K) := by
  refine top_ok (k := 8) F sc_law (by refine ⟨rfl, ?_, ?_⟩ <;> decide +kernel) bind fun cdv s H a Q hr h => ?_
  obtain ⟨a1, ns, ea, hs, hl, q⟩ := h
  cases ea
  refine ⟨_, (pss_cons (ps_set (i := 1) sc_law.nd rfl (Or.inr rfl) (pe_fn D_law_machine (hr.mono (by decide)) rfl (pa_cons (pe_fn D_law_cell (hr.mono (by decide)) rfl (pa_cons (pv 0) (pa_cons pe_int pa_nil))) (pa_cons (pe_slice (slL K) (pv 0) (po_some pe_int) (po_some pe_int)) (pa_cons (pe_cmpR op_gt (pe_op op_mod (pe_callTy call_int1 (by rfl) B.int (by decide +kernel) (pa_cons (pe_fn D_law_cell (hr.mono (by decide)) rfl (pa_cons (pv 0) (pa_cons pe_int pa_nil))) pa_nil)) pe_int) pe_int (nomark _)) pa_nil)))))
 (pss_cons (ps_set (i := 2) sc_law.nd rfl (Or.inl rfl) (pe_fn D_law_draws (hr.mono (by decide)) rfl (pa_cons (pe_fn D_law_cell (hr.mono (by decide)) rfl (pa_cons (pv 0) (pa_cons pe_int pa_nil))) (pa_cons (pe_op (opCat K) (pe_op (opCat K) (pe_lst (pa_cons pe_int pa_nil)) (pe_op op_rep (pe_lst (pa_cons pe_int pa_nil)) pe_int)) (pe_op op_rep (pe_lst (pa_cons pe_int pa_nil)) pe_int)) pa_nil))))
 (pss_cons (ps_set (i := 3) sc_law.nd rfl (Or.inr rfl) (pe_slice (slL K) (pv 2) (po_some pe_int) (po_some (pe_op op_add pe_int (pe_ix (ixT K) (pv 1) pe_int (fun _ _ => rfl))))))
 (pss_cons (ps_set (i := 4) sc_law.nd rfl (Or.inr rfl) (pe_tup (pa_cons (pe_op op_mod (pe_callTy call_int1 (by rfl) B.int (by decide +kernel) (pa_cons (pe_ix (ixL K) (pv 2) pe_int (fun _ _ => rfl)) pa_nil)) (pe_ix (ixT K) (pv 1) pe_int (fun _ _ => rfl))) (pa_cons (pe_slice (slL K) (pv 2) (po_some pe_int) (po_some (pe_op op_add pe_int (pe_ix (ixT K) (pv 1) pe_int (fun _ _ => rfl))))) pa_nil))))
 (pss_cons (ps_set (i := 6) sc_law.nd rfl (Or.inl rfl) (pe_tup (pa_cons (pe_ix (ixT K) (pv 4) pe_int (fun _ _ => rfl)) (pa_cons (pe_lc (own := [("k", 5)]) (g := gName 5) (by rfl) sc_law.nd (pi_range1 rfl B.range (pa_cons (pe_ix (ixT K) (pv 1) pe_int (fun _ _ => rfl)) pa_nil)) (blkOk_by (own := [("k", 5)]) (N := ["script", "machine", "draws", "more", "small", "k", "large", "can", "wide", "move", "run", "first", "second", "plain", "cell", "j"]) (sc := (defScope s_law)) (by decide +kernel)) (fun _ _ _ _ _ => (pg_name (i := 5) sc_law.nd rfl (Or.inl rfl))) (fun _ _ _ _ _ => pts_nil) (fun _ _ _ _ _ => (pe_op op_add (pe_ix (ixL K) (pe_ix (ixT K) (pv 4) pe_int (fun _ _ => rfl)) (pv 5) (fun _ _ => rfl)) (pe_ix (ixL K) (pv 3) (pv 5) (fun _ _ => rfl))))) pa_nil))))
 (pss_cons (ps_set (i := 7) sc_law.nd rfl (Or.inl rfl) (pe_fn D_possible_moves (hr.mono (by decide)) rfl (pa_cons (pv 1) (pa_cons (pv 4) pa_nil))))
 (pss_cons (ps_set (i := 8) sc_law.nd rfl (Or.inl rfl) (pe_fn D_possible_moves (hr.mono (by decide)) rfl (pa_cons (pv 1) (pa_cons (pv 6) pa_nil))))
 (pss_cons (ps_for PassesOwn.never rfl (piL K (pv 7)) (pg_name (i := 9) sc_law.nd rfl (Or.inl rfl))
 (pss_one (ps_if (PW.pt (pw_or (pt_cmpR (opNotIn K) (pv 9) (pv 8) (by rfl)) (pw_or1 (pt_not (pt_val (pe_fn D_law_covers (hr.mono (by decide)) rfl (pa_cons (pe_fn D_after (hr.mono (by decide)) rfl (pa_cons (pv 1) (pa_cons (pv 6) (pa_cons (pv 9) pa_nil)))) (pa_cons (pe_fn D_after (hr.mono (by decide)) rfl (pa_cons (pv 1) (pa_cons (pv 4) (pa_cons (pv 9) pa_nil)))) pa_nil))))))))
 (pss_one (ps_ret pe_bl))
 pss_nil)))
 (pss_cons (ps_set (i := 10) sc_law.nd rfl (Or.inl rfl) (pe_fn D_scheduled (hr.mono (by decide)) rfl (pa_cons (pv 1) (pa_cons (pv 4) (pa_cons (pe_lc (own := [("cell", 14)]) (g := gName 14) (by rfl) sc_law.nd (piL K (pe_slice (slL K) (pv 0) (po_some pe_int) (po_some pe_int))) (blkOk_by (own := [("cell", 14)]) (N := ["script", "machine", "draws", "more", "small", "k", "large", "can", "wide", "move", "run", "first", "second", "plain", "cell", "j"]) (sc := (defScope s_law)) (by decide +kernel)) (fun _ _ _ _ _ => (pg_name (i := 14) sc_law.nd rfl (Or.inl rfl))) (fun _ _ _ _ _ => pts_nil) (fun _ _ _ _ _ => (pe_callB call_abs (by rfl) B.abs (by decide +kernel) (pa_cons (pe_callTy call_int1 (by rfl) B.int (by decide +kernel) (pa_cons (pv 14) pa_nil)) pa_nil)))) pa_nil)))))
 (pss_cons (ps_set (i := 11) sc_law.nd rfl (Or.inr rfl) (pe_fn D_follow (hr.mono (by decide)) rfl (pa_cons (pv 1) (pa_cons (pv 4) (pa_cons (pv 10) pa_nil)))))
 (pss_cons (ps_set (i := 12) sc_law.nd rfl (Or.inl rfl) (pe_fn D_follow (hr.mono (by decide)) rfl (pa_cons (pv 1) (pa_cons (pv 6) (pa_cons (pv 10) pa_nil)))))
 (pss_cons (ps_if (PW.pt (pw_or (pt_cmpR op_ne (pe_callB (cLen K) (by rfl) B.len PySem.boot_len (pa_cons (pv 11) pa_nil)) (pe_op op_add (pe_callB (cLen K) (by rfl) B.len PySem.boot_len (pa_cons (pv 10) pa_nil)) pe_int) (nomark _)) (pw_or1 (pt_cmpR op_ne (pe_callB (cLen K) (by rfl) B.len PySem.boot_len (pa_cons (pv 12) pa_nil)) (pe_callB (cLen K) (by rfl) B.len PySem.boot_len (pa_cons (pv 11) pa_nil)) (nomark _)))))
 (pss_one (ps_ret pe_bl))
 pss_nil)
 (pss_cons (ps_set (i := 13) sc_law.nd rfl (Or.inl rfl) (pe_callB (cAll K rfl) (by rfl) B.all (by decide +kernel) (pa_cons (pe_lc (own := [("move", 9)]) (g := gName 9) (by rfl) sc_law.nd (piL K (pv 10)) (blkOk_by (own := [("move", 9)]) (N := ["script", "machine", "draws", "more", "small", "k", "large", "can", "wide", "move", "run", "first", "second", "plain", "cell", "j"]) (sc := (defScope s_law)) (by decide +kernel)) (fun _ _ _ _ _ => (pg_name (i := 9) sc_law.nd rfl (Or.inl rfl))) (fun _ _ _ _ _ => pts_nil) (fun _ _ _ _ _ => (pe_cmpR op_eq (pe_callB (cLen K) (by rfl) B.len PySem.boot_len (pa_cons (pe_ix (ixT K) (pe_ix (ixL K) (pe_ix (ixT K) (pv 1) pe_int (fun _ _ => rfl)) (pv 9) (fun _ _ => rfl)) pe_int (fun _ _ => rfl)) pa_nil)) pe_int (nomark _)))) pa_nil)))
 (pss_cons (ps_for PassesOwn.never rfl (pi_range1 rfl B.range (pa_cons (pe_callB (cLen K) (by rfl) B.len PySem.boot_len (pa_cons (pv 11) pa_nil)) pa_nil)) (pg_name (i := 5) sc_law.nd rfl (Or.inr rfl))
 (pss_cons (ps_if (pt_not (pt_val (pe_fn D_law_covers (hr.mono (by decide)) rfl (pa_cons (pe_ix (ixL K) (pv 12) (pv 5) (fun _ _ => rfl)) (pa_cons (pe_ix (ixL K) (pv 11) (pv 5) (fun _ _ => rfl)) pa_nil)))))
 (pss_one (ps_ret pe_bl))
 pss_nil)
 (pss_one (ps_if (PW.pt (pw_and (pt_val (pv 13)) (pw_and1 (pt_cmpR (opNeD K hr.units) (pe_ix (ixT K) (pe_ix (ixL K) (pv 12) (pv 5) (fun _ _ => rfl)) pe_int (fun _ _ => rfl)) (pe_lc (own := [("j", 15)]) (g := gName 15) (by rfl) sc_law.nd (pi_range1 rfl B.range (pa_cons (pe_ix (ixT K) (pv 1) pe_int (fun _ _ => rfl)) pa_nil)) (blkOk_by (own := [("j", 15)]) (N := ["script", "machine", "draws", "more", "small", "k", "large", "can", "wide", "move", "run", "first", "second", "plain", "cell", "j"]) (sc := (defScope s_law)) (by decide +kernel)) (fun _ _ _ _ _ => (pg_name (i := 15) sc_law.nd rfl (Or.inl rfl))) (fun _ _ _ _ _ => pts_nil) (fun _ _ _ _ _ => (pe_op op_add (pe_ix (ixL K) (pe_ix (ixT K) (pe_ix (ixL K) (pv 11) (pv 5) (fun _ _ => rfl)) pe_int (fun _ _ => rfl)) (pv 15) (fun _ _ => rfl)) (pe_ix (ixL K) (pv 3) (pv 15) (fun _ _ => rfl))))) (nomark _)))))
 (pss_one (ps_ret pe_bl))
 pss_nil))))
 (pss_one (ps_ret pe_bl)))))))))))))))), ?_⟩
  obtain ⟨ys, ey, hy, _⟩ := cutV_map V.int ns (some 1) (some 13)
  refine ⟨_, rfl, a, ns, 0, rfl, hs, fun c0 => ⟨_, rfl, _, rfl, _, rfl, a, _, rfl, hs, fun p1 n1 => ?_⟩⟩
  refine ⟨_, rfl, a, ns, 0, rfl, (same_new n1).seq hs, fun c0' => .inl ⟨_, rfl, _, _, rfl, rfl, (by show (0 : Int) < 5; decide), _, _, rfl, rfl, ?_⟩⟩
  refine ⟨c0, p1, ys, _, rfl, sq (by rw [upd_same, ey]), by omega, ?_⟩
  intro H1 v M s1 dM ok l6 _
  have sm1 := (same_new n1).trans s1
  clear s1 n1
  obtain ⟨am, sv, ma, mxs, rfl, ham, _, hma, hmxs⟩ := dp_mt dM
  have mxl := dpa_map_len hmxs
  dsimp only [gName]
  -- the draws
  refine ⟨_, rfl, a, ns, 13, rfl, sm1.seq hs, fun c1 => ⟨szc 1, fun p1 n1 => ⟨szc 1, fun p2 n2 => ⟨p2, _, _, rfl, rfl, upd_same, by decide, by decide, sz (by decide), fun p3 n3 => ?_⟩⟩⟩⟩
  have e1 : (upd (upd (upd H1 p1 (.lst [.int 4])) p2 (.lst [.int 4])) p3 (.lst (List.replicate (6 : Int).toNat [V.int 4]).flatten)) p1 = some (.lst [.int 4]) := (same_new n3) _ _ ((same_new n2) _ _ upd_same)
  refine ⟨_, _, _, _, rfl, rfl, sq e1, sq upd_same, sz (by decide), fun p4 n4 => ?_⟩
  have e4 : (upd (upd (upd (upd H1 p1 (.lst [.int 4])) p2 (.lst [.int 4])) p3 (.lst (List.replicate (6 : Int).toNat [V.int 4]).flatten)) p4 (.lst ([V.int 4] ++ (List.replicate (6 : Int).toNat [V.int 4]).flatten))) p4 = some (.lst ([V.int 4] ++ (List.replicate (6 : Int).toNat [V.int 4]).flatten)) := upd_same
  refine ⟨szc 1, fun p5 n5 => ⟨p5, _, _, rfl, rfl, upd_same, by decide, by decide, sz (by decide), fun p6 n6 => ?_⟩⟩
  refine ⟨_, _, _, _, rfl, rfl, sq ((same_new n6) _ _ ((same_new n5) _ _ e4)), sq upd_same, sz (by decide), fun p7 n7 => ?_⟩
  refine ⟨p7, c1, [4, 4, 4, 4, 4, 4, 4, 6, 6, 6, 6, 6, 6], rfl, sq upd_same, by decide, by decide, fun H4 pd ds s4 nd ed dk => ?_⟩
  have s14 : Same H1 H4 := (((same_new n1).trans (same_new n2)).trans (same_new n3)).trans ((((same_new n4).trans (same_new n5)).trans (same_new n6)).trans ((same_new n7).trans s4))
  clear e1 e4 s4 n1 n2 n3 n4 n5 n6 n7 nd
  obtain ⟨x0, r0, rfl, x00, x01, dk⟩ := dk.cons
  obtain ⟨x1, r1, rfl, x10, x11, dk⟩ := dk.cons
  obtain ⟨x2, r2, rfl, x20, x21, dk⟩ := dk.cons
  obtain ⟨x3, r3, rfl, x30, x31, dk⟩ := dk.cons
  obtain ⟨x4, r4, rfl, x40, x41, dk⟩ := dk.cons
  obtain ⟨x5, r5, rfl, x50, x51, dk⟩ := dk.cons
  obtain ⟨x6, r6, rfl, x60, x61, dk⟩ := dk.cons
  obtain ⟨y1, r1', rfl, y10, y11, dk⟩ := dk.cons
  obtain ⟨y2, r2', rfl, y20, y21, dk⟩ := dk.cons
  obtain ⟨y3, r3', rfl, y30, y31, dk⟩ := dk.cons
  obtain ⟨y4, r4', rfl, y40, y41, dk⟩ := dk.cons
  obtain ⟨y5, r5', rfl, y50, y51, dk⟩ := dk.cons
  obtain ⟨y6, r6', rfl, y60, y61, dk⟩ := dk.cons
  obtain rfl := dk.nil
  have sd := sq (K := K) ed
  have ham4 := Same.seqT s14 ham
  have ps : (0 : Int) < (M.states : Int) := by have := ok.s1; omega
  have hp6 := ok.p2
  dsimp only [gName]
  -- more
  have cuts := cut_a (x0 := V.int x0) (x1 := V.int x1) (x2 := V.int x2) (x3 := V.int x3) (x4 := V.int x4) (x5 := V.int x5) (x6 := V.int x6) (y1 := V.int y1) (y2 := V.int y2) (y3 := V.int y3) (y4 := V.int y4) (y5 := V.int y5) (y6 := V.int y6) ok.p1 ok.p2
  have cm : cutV ([x0, x1, x2, x3, x4, x5, x6, y1, y2, y3, y4, y5, y6].map V.int) (some 7) (some (7 + (M.places : Int))) = ([y1, y2, y3, y4, y5, y6].take M.places).map V.int := by
    rw [List.map_take]
    exact cuts.2
  have cN : cutV ([x0, x1, x2, x3, x4, x5, x6, y1, y2, y3, y4, y5, y6].map V.int) (some 1) (some (1 + (M.places : Int))) = ([x1, x2, x3, x4, x5, x6].take M.places).map V.int := by
    rw [List.map_take]
    exact cuts.1
  refine ⟨_, rfl, _, rfl, _, rfl, _, _, _, _, rfl, rfl, ham4, atI_nat (j := 1) rfl, _, _, rfl, rfl, _, rfl, pd, _, rfl, sd, fun pm npm => ?_⟩
  have em : (upd H4 pm (.lst (cutV ([x0, x1, x2, x3, x4, x5, x6, y1, y2, y3, y4, y5, y6].map V.int) (some 7) (some (7 + (M.places : Int)))))) pm = some (.lst (([y1, y2, y3, y4, y5, y6].take M.places).map V.int)) := by rw [upd_same, cm]
  have s4m := same_new (o := HO.lst (cutV ([x0, x1, x2, x3, x4, x5, x6, y1, y2, y3, y4, y5, y6].map V.int) (some 7) (some (7 + (M.places : Int))))) npm
  dsimp only [gName]
  change tSeq _ _ _ _ (upd H4 pm (.lst (cutV ([x0, x1, x2, x3, x4, x5, x6, y1, y2, y3, y4, y5, y6].map V.int) (some 7) (some (7 + (M.places : Int))))))
  generalize upd H4 pm (.lst (cutV ([x0, x1, x2, x3, x4, x5, x6, y1, y2, y3, y4, y5, y6].map V.int) (some 7) (some (7 + (M.places : Int))))) = H4' at em s4m ⊢
  have s14' := s14.trans s4m
  have hamm := Same.seqT s14' ham
  -- small
  refine ⟨_, rfl, _, _, _, _, rfl, rfl, s4m.seq sd, atI_nat (j := 0) rfl, .inl ⟨_, rfl, _, rfl, _, _, _, _, rfl, rfl, hamm, atI_nat (j := 0) rfl, _, _, rfl, rfl, ps, ?_⟩⟩
  refine ⟨_, rfl, _, rfl, _, rfl, _, _, _, _, rfl, rfl, hamm, atI_nat (j := 1) rfl, _, _, rfl, rfl, _, rfl, pd, _, rfl, s4m.seq sd, fun p np => ⟨szc 2, fun t nt => ?_⟩⟩
  have ms0 := mod_in x0 ps
  have clen : ([x1, x2, x3, x4, x5, x6].take M.places).length = M.places := by rw [List.length_take]; show min M.places 6 = _; omega
  have mlen : ([y1, y2, y3, y4, y5, y6].take M.places).length = M.places := by rw [List.length_take]; show min M.places 6 = _; omega
  have cnn : ∀ c ∈ [x1, x2, x3, x4, x5, x6].take M.places, 0 ≤ c := by
    intro x hx
    have hx := List.mem_of_mem_take hx
    simp only [List.mem_cons, List.not_mem_nil, or_false] at hx
    rcases hx with rfl | rfl | rfl | rfl | rfl | rfl <;> omega
  have mnn : ∀ c ∈ [y1, y2, y3, y4, y5, y6].take M.places, 0 ≤ c ∧ c < 6 := by
    intro x hx
    have hx := List.mem_of_mem_take hx
    simp only [List.mem_cons, List.not_mem_nil, or_false] at hx
    rcases hx with rfl | rfl | rfl | rfl | rfl | rfl <;> omega
  have csum := sum_take4 ⟨x10, x11⟩ ⟨x20, x21⟩ ⟨x30, x31⟩ ⟨x40, x41⟩ ⟨x50, x51⟩ ⟨x60, x61⟩ ok.p1 ok.p2
  have sit5 : Sit K _ (.ref t) (x0 % (M.states : Int)) ([x1, x2, x3, x4, x5, x6].take M.places) := ⟨t, p, rfl, st upd_same, (same_new nt).seq (sq (by rw [upd_same]; exact congrArg (fun z => some (HO.lst z)) cN))⟩
  have s45 := (same_new np).trans (same_new (o := HO.tup [V.int (x0 % (M.states : Int)), .ref p]) nt)
  have s15 := s14'.trans s45
  have em5 := s45 _ _ em
  dsimp only [gName]
  clear cm cN cuts nt np sd ed dk s45 em s4m
  generalize upd (upd H4' p (.lst (cutV ([x0, x1, x2, x3, x4, x5, x6, y1, y2, y3, y4, y5, y6].map V.int) (some 1) (some (1 + (M.places : Int)))))) t (.tup [.int (x0 % (M.states : Int)), .ref p]) = H5 at sit5 s15 em5 ⊢
  generalize [x1, x2, x3, x4, x5, x6].take M.places = cs at clen cnn csum sit5
  generalize [y1, y2, y3, y4, y5, y6].take M.places = mo at mlen mnn em5
  generalize x0 % (M.states : Int) = st0 at ms0 sit5
  have fitc : ∀ m ∈ M.moves, m.Fit M.states cs.length := fun m hm => by rw [clen]; exact ok.fit m hm
  have ml := ok.ml
  have ham5 := Same.seqT s15 ham
  obtain ⟨_, ca, et, hsit, hca⟩ := id sit5
  cases et
  -- large
  refine ⟨_, rfl, _, _, _, _, rfl, rfl, hsit, atI_nat (j := 0) rfl, ?_⟩
  refine ⟨_, rfl, _, _, _, _, rfl, rfl, ham5, atI_nat (j := 1) rfl, _, rfl, by omega, by omega, fun D nD => lc_range (lo := 0) (n := M.places) (fun i H' => Same H5 H' ∧ H' D = some (.lst (((List.range i).map fun j => cs.getD j 0 + mo.getD j 0).map V.int))) ⟨same_new nD, upd_same⟩ ?_ ?_⟩
  · rintro i H' hi ⟨sx, eD⟩
    have hz : (0 : Int) + (i : Int) = (i : Int) := by omega
    refine ⟨rfl, _, rfl, _, _, _, _, rfl, rfl, Same.seqT sx hsit, atI_nat (j := 1) rfl, _, rfl, _, _, _, _, rfl, rfl, sx.seq hca, at_gd hz (by omega), _, rfl, _, rfl, _, _, _, _, rfl, rfl, sx.seq (sq em5), at_gd hz (by omega), _, _, rfl, rfl, _, eD, ?_, Same.mut sx nD, ?_⟩
    · rw [List.length_map, List.length_map, List.length_range]
      exact szl (by omega)
    · rw [upd_same, List.range_succ, List.map_append, List.map_append]
      rfl
  rintro H5b ⟨s5b, eD⟩
  refine ⟨szc 2, fun tl ntl => ?_⟩
  have sitL : Sit K _ (.ref tl) st0 ((List.range M.places).map fun j => cs.getD j 0 + mo.getD j 0) := ⟨tl, D, rfl, st upd_same, (same_new ntl).seq (sq eD)⟩
  have s56 := s5b.trans (same_new (o := HO.tup [V.int st0, .ref D]) ntl)
  dsimp only [gName]
  clear eD nD ntl
  generalize upd H5b tl (.tup [V.int st0, .ref D]) = H6 at sitL s56 ⊢
  have llen : ((List.range M.places).map fun j => cs.getD j 0 + mo.getD j 0).length = M.places := by rw [List.length_map, List.length_range]
  have lat : ∀ i, i < M.places → ((List.range M.places).map fun j => cs.getD j 0 + mo.getD j 0).getD i 0 = cs.getD i 0 + mo.getD i 0 := fun i hi => by
    rw [List.getD_eq_getElem?_getD, List.getElem?_map, List.getElem?_range hi]
    rfl
  have gadd : AddT mo (st0, (List.range M.places).map fun j => cs.getD j 0 + mo.getD j 0) (st0, cs) := ⟨llen.trans clen.symm, fun i hi => lat i (by rw [← clen]; exact hi)⟩
  have gge : GeT (st0, (List.range M.places).map fun j => cs.getD j 0 + mo.getD j 0) (st0, cs) := by
    refine ⟨rfl, llen.trans clen.symm, fun i => ?_⟩
    show cs.getD i 0 ≤ ((List.range M.places).map fun j => cs.getD j 0 + mo.getD j 0).getD i 0
    by_cases hi : i < M.places
    · rw [lat i hi]
      have := (mnn _ (gd_mem (ds := mo) (i := i) (by omega))).1
      omega
    · rw [List.getD_eq_getElem?_getD, List.getD_eq_getElem?_getD, List.getElem?_eq_none (by omega), List.getElem?_eq_none (by omega)]
      exact Int.le_refl _
  generalize ((List.range M.places).map fun j => cs.getD j 0 + mo.getD j 0) = lg at sitL llen gadd gge
  clear lat
  have fitl : ∀ m ∈ M.moves, m.Fit M.states lg.length := fun m hm => by rw [llen]; exact ok.fit m hm
  have s16 := s15.trans s56
  have sit6 := Same.sit s56 sit5
  -- can, wide
  refine ⟨_, rfl, _, rfl, _, _, M, st0, cs, rfl, dp_mono s16 dM, sit6, fun m hm => (fitc m hm).pl, by omega, fun H7 pc s67 npc epc => ?_⟩
  dsimp only [gName]
  have s17 := s16.trans s67
  refine ⟨_, rfl, _, rfl, _, _, M, st0, lg, rfl, dp_mono s17 dM, Same.sit s67 sitL, fun m hm => (fitl m hm).pl, by omega, fun H8 pw s78 npw epw => ?_⟩
  dsimp only [gName]
  have s18 := s17.trans s78
  have s68 := s67.trans s78
  have epc8 := s78 _ _ epc
  have dM8 := dp_mono s18 dM
  have sit8 := Same.sit s68 sit6
  have sitL8 := Same.sit s68 sitL
  refine ⟨_, rfl, pc, rfl, ⟨_, sq epc8⟩, for_list (xs := (canL M.moves st0 cs).map nV) (fun i σ' H' => ∃ y9 : Option V, σ' = [some (.ref a), some (.ref am), some (.ref pd), some (.ref pm), some (.ref t), none, some (.ref tl), some (.ref pc), some (.ref pw), y9, none, none, none, none, none, none] ∧ Same H8 H') ⟨_, rfl, Same.refl _⟩ ?_ ?_ ?_⟩
  · rintro i σ' H' _ ⟨y9, rfl, sx⟩
    exact sx.seq (sq epc8)
  · rintro i x σ' H' hx ⟨y9, rfl, sx⟩
    obtain ⟨k, hk, rfl⟩ := get_map_inv hx
    obtain ⟨mv, hmv, hcan⟩ := mem_canL.mp (List.mem_of_getElem? hk)
    have hmm := List.mem_of_getElem? hmv
    have hcanL : mv.can st0 lg = true := can_ge gge hcan
    have hmem : k ∈ canL M.moves st0 lg := mem_canL.mpr ⟨mv, hmv, hcanL⟩
    dsimp only [gName]
    refine ⟨_, rfl, _, rfl, pw, _, rfl, .inl (sq (sx _ _ epw)), rfl, flat_nats _, _, rfl, iteFx (by rw [if_pos rfl, inV_nats, decide_eq_true hmem]; rfl) ?_⟩
    refine ⟨_, rfl, _, rfl, _, rfl, _, _, M, k, mv, st0, lg, rfl, dp_mono sx dM8, Same.sit sx sitL8, hmv, hcanL, fitl mv hmm, fun HA pA sA newA => ?_⟩
    refine ⟨_, rfl, _, rfl, _, rfl, _, _, M, k, mv, st0, cs, rfl, dp_mono (sx.trans sA) dM8, Same.sit (sx.trans sA) sit8, hmv, hcan, fitc mv hmm, fun HB pB sB newB => ?_⟩
    refine ⟨_, _, ((mv.ns : Int), mv.aft lg), ((mv.ns : Int), mv.aft cs), rfl, Same.sit sB newA.sit, newB.sit, ⟨rfl, by rw [aft_len, aft_len]; exact gge.len, aft_ge (fitc mv hmm) gge.len gge.ge⟩, ?_, fun HC sC => ⟨true, rfl, iteF ?_⟩⟩
    · show (mv.aft cs).length ≤ 1000
      rw [aft_len]
      omega
    · exact ⟨_, rfl, (sx.trans sA).trans (sB.trans sC)⟩
  rintro σ' H9 ⟨y9, rfl, s89⟩
  have s19 := s18.trans s89
  -- the schedule
  obtain ⟨zs, ez, hzl, _⟩ := cutV_map V.int ns (some 14) (some 54)
  refine ⟨_, rfl, _, rfl, _, rfl, _, rfl, _, rfl, a, _, rfl, (sm1.trans s19).seq hs, fun p6 n6 => ⟨p6, rfl, ⟨zs.map V.int, sq (by rw [upd_same, ez])⟩, fun D nD => ?_⟩⟩
  have s9a := same_new (o := HO.lst (cutV (ns.map V.int) (some 14) (some 54))) n6
  have e6 : (upd H9 p6 (.lst (cutV (ns.map V.int) (some 14) (some 54)))) p6 = some (.lst (zs.map V.int)) := by rw [upd_same, ez]
  generalize upd H9 p6 (.lst (cutV (ns.map V.int) (some 14) (some 54))) = Ha at nD s9a e6 ⊢
  refine lc_list (xs := zs.map V.int) (fun i H' => Same Ha H' ∧ H' D = some (.lst (((zs.take i).map fun z => if z < 0 then -z else z).map V.int))) ⟨same_new nD, upd_same⟩ (fun _ H' _ p => p.1.seq (sq e6)) ?_ ?_
  · rintro i x H' hx ⟨sx, eD⟩
    obtain ⟨z, hz, rfl⟩ := get_map_inv hx
    refine ⟨rfl, _, rfl, .inl ⟨_, rfl, _, rfl, _, eD, ?_, Same.mut sx nD, ?_⟩⟩
    · rw [List.length_map, List.length_map, List.length_take]
      exact szl (by omega)
    · rw [upd_same, take_snoc hz, List.map_append, List.map_append]
      rfl
  rintro Hb ⟨sab, e7⟩
  rw [List.length_map, List.take_length] at e7
  have zn : ∀ z ∈ zs.map fun z => if z < 0 then -z else z, 0 ≤ z := fun z hz => by
    obtain ⟨y, _, rfl⟩ := List.mem_map.mp hz
    split <;> omega
  have zl : (zs.map fun z => if z < 0 then -z else z).length ≤ 63 := by rw [List.length_map]; omega
  generalize (zs.map fun z => if z < 0 then -z else z) = us at e7 zn zl
  have s8b := s89.trans (s9a.trans sab)
  refine ⟨_, _, D, M, (st0, cs), us, rfl, dp_mono s8b dM8, Same.sit s8b sit8, sq e7, zn, by omega, by omega, fitc, fun Hc pr sbc npr epr => ?_⟩
  have rok := sched_run M.moves us (st0, cs)
  have rl := sched_len M.moves us (st0, cs)
  generalize schedT M.moves (st0, cs) us = run at epr rok rl
  have s8c := s8b.trans sbc
  have rokL := run_ge (S := M.states) fitc gge rok
  dsimp only [gName]
  -- first, second
  refine ⟨_, rfl, _, rfl, _, rfl, _, _, pr, M, (st0, cs), run, rfl, dp_mono s8c dM8, Same.sit s8c sit8, sq epr, rok, by omega, fitc, fun Hd pf out scd epf dout => ?_⟩
  have s8d := s8c.trans scd
  dsimp only [gName]
  refine ⟨_, rfl, _, rfl, _, rfl, _, _, pr, M, (st0, lg), run, rfl, dp_mono s8d dM8, Same.sit s8d sitL8, sq (scd _ _ epr), rokL, by omega, fitl, fun He pg ouL sde epg douL => ?_⟩
  have s8e := s8d.trans sde
  have epf' := sde _ _ epf
  have epr' := sde _ _ (scd _ _ epr)
  have dout' := dpAll_mono sde dout
  dsimp only [gName]
  have tl1 : ∀ x, (traceT M.moves x run).length = run.length + 1 := fun x => by unfold traceT; rw [List.length_map, List.length_range]
  have ol := dpa_map_len dout'
  have olL := dpa_map_len douL
  rw [tl1] at ol olL
  have tat : ∀ (x : Int × List Int) (out : List V) (Hq : Hp), DpAll K Hq out ((traceT M.moves x run).map fun y => sitD y.1 y.2) → ∀ i, i ≤ run.length → ∃ u, out[i]? = some u ∧ Sit K Hq u (endT M.moves x (run.take i)).1 (endT M.moves x (run.take i)).2 := fun x out Hq d i hi => by
    have : (traceT M.moves x run)[i]? = some (endT M.moves x (run.take i)) := by
      unfold traceT
      rw [List.getElem?_map, List.getElem?_range (by omega)]
      rfl
    obtain ⟨u, hu, du⟩ := dpa_map_at' d this
    exact ⟨u, hu, dp_sit du⟩
  have rll : (run.map nV).length = run.length := List.length_map _
  refine ⟨_, rfl, pf, _, rfl, .inl (sq epf'), _, rfl, pr, _, rfl, .inl (sq epr'), _, _, rfl, rfl, rfl, _, rfl, iteFx (by rw [rll, ol]; exact (by rw [decide_eq_true (show V.int ((run.length + 1 : Nat) : Int) = V.int ((run.length : Int) + 1) from rfl)]; rfl)) ?_⟩
  refine ⟨_, rfl, pg, _, rfl, .inl (sq epg), _, rfl, pf, _, rfl, .inl (sq epf'), rfl, _, rfl, iteFx (by rw [ol, olL]; exact (by rw [decide_eq_true rfl]; rfl)) ?_⟩
  -- plain
  have ham' := Same.seqT (s18.trans s8e) ham
  have hma' := (s18.trans s8e).seq hma
  have dmx' := dpAll_mono (s18.trans s8e) hmxs
  refine ⟨_, rfl, pr, rfl, ⟨_, sq epr'⟩, fun D2 nD2 => lc_list (xs := run.map nV) (fun i H' => Same He H' ∧ H' D2 = some (.lst (((run.take i).map fun k => match M.moves[k]? with | some m => decide (m.sh = []) | none => true).map V.bl))) ⟨same_new nD2, upd_same⟩ (fun _ H' _ p => p.1.seq (sq epr')) ?_ ?_⟩
  · rintro i x H' hx ⟨sx, eD⟩
    obtain ⟨k, hk, rfl⟩ := get_map_inv hx
    obtain ⟨mv, hmv, _⟩ := rok i k hk
    obtain ⟨xm, hxm, dmv⟩ := dpa_map_at' (dpAll_mono sx dmx') hmv
    obtain ⟨tm, sa, xs, rfl, htm, hsa, hxs⟩ := dp_mv dmv
    have xl := dpa_map_len hxs
    refine ⟨rfl, _, rfl, _, _, _, _, rfl, rfl, Same.seqT sx ham', atI_nat (j := 4) rfl, _, rfl, _, _, _, _, rfl, rfl, sx.seq hma', atI_nat hxm, _, _, _, _, rfl, rfl, htm, atI_nat (j := 5) rfl, sa, _, rfl, .inl hsa, rfl, _, eD, ?_, Same.mut sx nD2, ?_⟩
    · rw [List.length_map, List.length_map, List.length_take]
      exact szl (by omega)
    · rw [upd_same, take_snoc hk, List.map_append, List.map_append]
      have : decide (V.int (xs.length : Int) = V.int 0) = decide (mv.sh = []) := by
        refine decide_eq_decide.mpr ⟨fun z => ?_, fun z => ?_⟩
        · have := V.int.inj z
          exact List.eq_nil_of_length_eq_zero (by omega)
        · rw [xl, z]
          rfl
      rw [this]
      show _ = some (HO.lst (_ ++ [V.bl (match M.moves[k]? with | some m => decide (m.sh = []) | none => true)]))
      rw [hmv]
  rintro Hf ⟨sef, e2⟩
  rw [List.length_map, List.take_length] at e2
  refine ⟨D2, _, rfl, sq e2, ?_⟩
  have hplain : ((run.map fun k => match M.moves[k]? with | some m => decide (m.sh = []) | none => true).all id) = true → ∀ k ∈ run, ∀ m, M.moves[k]? = some m → m.sh = [] := fun h k hk m hm => by
    rw [List.all_eq_true] at h
    have := h _ (List.mem_map_of_mem hk)
    dsimp only [id] at this
    rw [hm] at this
    exact of_decide_eq_true this
  generalize ((run.map fun k => match M.moves[k]? with | some m => decide (m.sh = []) | none => true).all id) = pl at hplain
  dsimp only [gName]
  have s8f := s8e.trans sef
  have epf2 := sef _ _ epf'
  have epg2 := sef _ _ epg
  have dF := dpAll_mono sef dout'
  have dL := dpAll_mono sef douL
  have ham2 := Same.seqT sef ham'
  have em2 : Hf pm = _ := (s56.trans (s68.trans s8f)) _ _ em5
  have alS := along (S := M.states) fitc cnn ms0 rok
  have lnn : ∀ c ∈ lg, 0 ≤ c := fun c hc => by
    obtain ⟨i, hi, rfl⟩ := List.getElem_of_mem hc
    have h1 := gge.ge i
    have h2 : lg.getD i 0 = lg[i] := by rw [List.getD_eq_getElem?_getD, List.getElem?_eq_getElem hi]; rfl
    have h3 := cnn _ (gd_mem (ds := cs) (i := i) (by omega))
    dsimp only at h1
    omega
  have lsum : lg.sum ≤ 200 := by
    have h : ∀ c ∈ lg, c ≤ 24 := fun c hc => by
      obtain ⟨i, hi, rfl⟩ := List.getElem_of_mem hc
      have h1 := gadd.eq i (by show i < cs.length; omega)
      have h2 : lg.getD i 0 = lg[i] := by rw [List.getD_eq_getElem?_getD, List.getElem?_eq_getElem hi]; rfl
      have h3 := (le_sum cnn).1 _ (gd_mem (ds := cs) (i := i) (by omega))
      have h4 := mnn _ (gd_mem (ds := mo) (i := i) (by omega))
      dsimp only at h1
      omega
    have := sum_le h
    omega
  have alL := along (S := M.states) fitl lnn ms0 rokL
  refine ⟨_, rfl, pf, _, rfl, .inl (sq epf2), _, rfl, by rw [ol]; omega, by rw [ol]; omega, for_range (lo := 0) (n := out.length) (fun i σ' H' => ∃ y5 : Option V, σ' = [some (.ref a), some (.ref am), some (.ref pd), some (.ref pm), some (.ref t), y5, some (.ref tl), some (.ref pc), some (.ref pw), y9, some (.ref pr), some (.ref pf), some (.ref pg), some (.bl pl), none, none] ∧ Same Hf H') ⟨_, rfl, Same.refl _⟩ ?_ ?_⟩
  · rintro i σ' H' hi ⟨y5, rfl, sx⟩
    rw [ol] at hi
    have hz : (0 : Int) + (i : Int) = (i : Int) := by omega
    obtain ⟨u1, hu1, sit1⟩ := tat _ _ _ dF i (by omega)
    obtain ⟨u2, hu2, sit2⟩ := tat _ _ _ dL i (by omega)
    have gi := endT_ge (run.take i) fitc gge
    have a1 := alS i (by omega)
    have a2 := alL i (by omega)
    have hadd : pl = true → AddT mo (endT M.moves (st0, lg) (run.take i)) (endT M.moves (st0, cs) (run.take i)) := fun h => endT_add (run.take i) fitc (fun k hk => hplain h k (List.mem_of_mem_take hk)) gadd
    have b1 := a1.bd (B := 100) (by show cs.sum + _ ≤ _; omega)
    have b2 := a2.bd (B := 300) (by show lg.sum + _ ≤ _; omega)
    have ln1 := a1.len
    have ln2 := a2.len
    dsimp only at ln1 ln2
    generalize endT M.moves (st0, cs) (run.take i) = X1 at sit1 gi hadd b1 ln1
    generalize endT M.moves (st0, lg) (run.take i) = X2 at sit2 gi hadd b2 ln2
    dsimp only [gName]
    refine ⟨_, rfl, _, rfl, _, _, _, _, rfl, rfl, sx.seq (sq epg2), at_n hz hu2, _, rfl, _, rfl, _, _, _, _, rfl, rfl, sx.seq (sq epf2), at_n hz hu1, _, _, X2, X1, rfl, Same.sit sx sit2, Same.sit sx sit1, gi, by omega, fun H2 s2 => ⟨true, rfl, iteF ?_⟩⟩
    have sx2 := sx.trans s2
    refine ⟨_, rfl, pl, rfl, ?_⟩
    cases pl with
    | false => exact iteF (iteF ⟨_, rfl, sx2⟩)
    | true =>
      refine iteT ?_
      obtain ⟨t2, c2, rfl, ht2, hc2⟩ := sit2
      obtain ⟨t1, c1', rfl, ht1, hc1⟩ := sit1
      refine ⟨_, rfl, _, rfl, _, _, _, _, rfl, rfl, sx2.seq (sq epg2), at_n hz hu2, _, _, _, _, rfl, rfl, Same.seqT sx2 ht2, atI_nat (j := 1) rfl, ?_⟩
      refine ⟨_, rfl, _, _, _, _, rfl, rfl, Same.seqT sx2 ham2, atI_nat (j := 1) rfl, _, rfl, by omega, by omega, fun D3 nD3 => lc_range (lo := 0) (n := M.places) (fun j H' => Same H2 H' ∧ H' D3 = some (.lst (((List.range j).map fun l => X1.2.getD l 0 + mo.getD l 0).map V.int))) ⟨same_new nD3, upd_same⟩ ?_ ?_⟩
      · rintro j H3 hj ⟨s3, eD3⟩
        have hz2 : (0 : Int) + (j : Int) = (j : Int) := by omega
        have sx3 := sx2.trans s3
        refine ⟨rfl, _, rfl, _, rfl, _, _, _, _, rfl, rfl, sx3.seq (sq epf2), at_n hz hu1, _, _, _, _, rfl, rfl, Same.seqT sx3 ht1, atI_nat (j := 1) rfl, _, rfl, _, _, _, _, rfl, rfl, sx3.seq hc1, at_gd hz2 (by omega), _, rfl, _, rfl, _, _, _, _, rfl, rfl, sx3.seq (sq em2), at_gd hz2 (by omega), _, _, rfl, rfl, _, eD3, ?_, Same.mut s3 nD3, ?_⟩
        · rw [List.length_map, List.length_map, List.length_range]
          exact szl (by omega)
        · rw [upd_same, List.range_succ, List.map_append, List.map_append]
          rfl
      rintro H3 ⟨s3, eD3⟩
      have e4 := (hadd rfl).list (n := M.places) (by omega)
      rw [← e4] at eD3
      have nc : NcD (.list (X2.2.map PyData.int)) (X2.2.length + 1) 1 := NcL.lst (ints_nc fun n hn => by have := b2 n hn; omega)
      refine ⟨_, _, .lst ((sx2.trans s3).seq hc2) (dpa_ints _), .lst (sq eD3) (dpa_ints _), nc.shaped (by decide), nc.shaped (by decide), _, rfl, iteFx (nvM nc.eqv) ⟨_, rfl, sx2.trans s3⟩⟩
  · rintro σ' H' ⟨y5, rfl, sx⟩
    exact q _
end
theorem all_mk {l : PySem.W.OpenLaw} {w : World} {K : PySem.W.Frag} {h : Heap} {mg : Str → Option Value} {fa f1 f2 f3 f4 f5 f6 f7 f8 f9 f10 f11 f12 f13 f14 : Addr} (X : K.In h) (G : h.Ns mainGlobals mg) (hfa : mg "law" = some (.ref fa))
    {od1 an1 od2 an2 od3 an3 od4 an4 od5 an5 od6 an6 od7 an7 od8 an8 od9 an9 od10 an10 od11 an11 od12 an12 od13 an13 od14 an14 : Option Addr} {sl1 sl2 sl3 sl4 sl5 sl6 sl7 sl8 sl9 sl10 sl11 sl12 sl13 sl14 : Array (Option Value)} {oc1 kV1 dc1 pm1 cd1 ct1 oc2 kV2 dc2 pm2 cd2 ct2 oc3 kV3 dc3 pm3 cd3 ct3 oc4 kV4 dc4 pm4 cd4 ct4 oc5 kV5 dc5 pm5 cd5 ct5 oc6 kV6 dc6 pm6 cd6 ct6 oc7 kV7 dc7 pm7 cd7 ct7 oc8 kV8 dc8 pm8 cd8 ct8 oc9 kV9 dc9 pm9 cd9 ct9 oc10 kV10 dc10 pm10 cd10 ct10 oc11 kV11 dc11 pm11 cd11 ct11 oc12 kV12 dc12 pm12 cd12 ct12 oc13 kV13 dc13 pm13 cd13 ct13 oc14 kV14 dc14 pm14 cd14 ct14 : Value}
    (a1 : PySem.W.nsIn K mainGlobals "_law_cell" = some (some (.ref f1))) (l1 : K.lookup f1 = some ⟨oc1, od1, .func (PySem.W.fnOf "_law_cell" "_law_cell" (defArgs s_law_cell) (defBody s_law_cell) (defScope s_law_cell) .none kV1 dc1 pm1 an1 cd1 ct1), sl1⟩) (c1 : PySem.W.codeIn K cd1 "_law_cell" = true) (k1 : PySem.W.keepIn K (.ref f1) = true)
    (a2 : PySem.W.nsIn K mainGlobals "_law_draws" = some (some (.ref f2))) (l2 : K.lookup f2 = some ⟨oc2, od2, .func (PySem.W.fnOf "_law_draws" "_law_draws" (defArgs s_law_draws) (defBody s_law_draws) (defScope s_law_draws) .none kV2 dc2 pm2 an2 cd2 ct2), sl2⟩) (c2 : PySem.W.codeIn K cd2 "_law_draws" = true) (k2 : PySem.W.keepIn K (.ref f2) = true)
    (a3 : PySem.W.nsIn K mainGlobals "move_at" = some (some (.ref f3))) (l3 : K.lookup f3 = some ⟨oc3, od3, .func (PySem.W.fnOf "move_at" "move_at" (defArgs s_move_at) (defBody s_move_at) (defScope s_move_at) .none kV3 dc3 pm3 an3 cd3 ct3), sl3⟩) (c3 : PySem.W.codeIn K cd3 "move_at" = true) (k3 : PySem.W.keepIn K (.ref f3) = true)
    (a4 : PySem.W.nsIn K mainGlobals "can_take" = some (some (.ref f4))) (l4 : K.lookup f4 = some ⟨oc4, od4, .func (PySem.W.fnOf "can_take" "can_take" (defArgs s_can_take) (defBody s_can_take) (defScope s_can_take) .none kV4 dc4 pm4 an4 cd4 ct4), sl4⟩) (c4 : PySem.W.codeIn K cd4 "can_take" = true) (k4 : PySem.W.keepIn K (.ref f4) = true)
    (a5 : PySem.W.nsIn K mainGlobals "after" = some (some (.ref f5))) (l5 : K.lookup f5 = some ⟨oc5, od5, .func (PySem.W.fnOf "after" "after" (defArgs s_after) (defBody s_after) (defScope s_after) .none kV5 dc5 pm5 an5 cd5 ct5), sl5⟩) (c5 : PySem.W.codeIn K cd5 "after" = true) (k5 : PySem.W.keepIn K (.ref f5) = true)
    (a6 : PySem.W.nsIn K mainGlobals "possible_moves" = some (some (.ref f6))) (l6 : K.lookup f6 = some ⟨oc6, od6, .func (PySem.W.fnOf "possible_moves" "possible_moves" (defArgs s_possible_moves) (defBody s_possible_moves) (defScope s_possible_moves) .none kV6 dc6 pm6 an6 cd6 ct6), sl6⟩) (c6 : PySem.W.codeIn K cd6 "possible_moves" = true) (k6 : PySem.W.keepIn K (.ref f6) = true)
    (a7 : PySem.W.nsIn K mainGlobals "copied" = some (some (.ref f7))) (l7 : K.lookup f7 = some ⟨oc7, od7, .func (PySem.W.fnOf "copied" "copied" (defArgs s_copied) (defBody s_copied) (defScope s_copied) .none kV7 dc7 pm7 an7 cd7 ct7), sl7⟩) (c7 : PySem.W.codeIn K cd7 "copied" = true) (k7 : PySem.W.keepIn K (.ref f7) = true)
    (a8 : PySem.W.nsIn K mainGlobals "situations" = some (some (.ref f8))) (l8 : K.lookup f8 = some ⟨oc8, od8, .func (PySem.W.fnOf "situations" "situations" (defArgs s_situations) (defBody s_situations) (defScope s_situations) .none kV8 dc8 pm8 an8 cd8 ct8), sl8⟩) (c8 : PySem.W.codeIn K cd8 "situations" = true) (k8 : PySem.W.keepIn K (.ref f8) = true)
    (a9 : PySem.W.nsIn K mainGlobals "follow" = some (some (.ref f9))) (l9 : K.lookup f9 = some ⟨oc9, od9, .func (PySem.W.fnOf "follow" "follow" (defArgs s_follow) (defBody s_follow) (defScope s_follow) .none kV9 dc9 pm9 an9 cd9 ct9), sl9⟩) (c9 : PySem.W.codeIn K cd9 "follow" = true) (k9 : PySem.W.keepIn K (.ref f9) = true)
    (a10 : PySem.W.nsIn K mainGlobals "scheduled" = some (some (.ref f10))) (l10 : K.lookup f10 = some ⟨oc10, od10, .func (PySem.W.fnOf "scheduled" "scheduled" (defArgs s_scheduled) (defBody s_scheduled) (defScope s_scheduled) .none kV10 dc10 pm10 an10 cd10 ct10), sl10⟩) (c10 : PySem.W.codeIn K cd10 "scheduled" = true) (k10 : PySem.W.keepIn K (.ref f10) = true)
    (a11 : PySem.W.nsIn K mainGlobals "_law_pairs" = some (some (.ref f11))) (l11 : K.lookup f11 = some ⟨oc11, od11, .func (PySem.W.fnOf "_law_pairs" "_law_pairs" (defArgs s_law_pairs) (defBody s_law_pairs) (defScope s_law_pairs) .none kV11 dc11 pm11 an11 cd11 ct11), sl11⟩) (c11 : PySem.W.codeIn K cd11 "_law_pairs" = true) (k11 : PySem.W.keepIn K (.ref f11) = true)
    (a12 : PySem.W.nsIn K mainGlobals "_law_machine" = some (some (.ref f12))) (l12 : K.lookup f12 = some ⟨oc12, od12, .func (PySem.W.fnOf "_law_machine" "_law_machine" (defArgs s_law_machine) (defBody s_law_machine) (defScope s_law_machine) .none kV12 dc12 pm12 an12 cd12 ct12), sl12⟩) (c12 : PySem.W.codeIn K cd12 "_law_machine" = true) (k12 : PySem.W.keepIn K (.ref f12) = true)
    (a13 : PySem.W.nsIn K mainGlobals "_law_covers" = some (some (.ref f13))) (l13 : K.lookup f13 = some ⟨oc13, od13, .func (PySem.W.fnOf "_law_covers" "_law_covers" (defArgs s_law_covers) (defBody s_law_covers) (defScope s_law_covers) .none kV13 dc13 pm13 an13 cd13 ct13), sl13⟩) (c13 : PySem.W.codeIn K cd13 "_law_covers" = true) (k13 : PySem.W.keepIn K (.ref f13) = true)
    (a14 : PySem.W.nsIn K mainGlobals "law" = some (some (.ref f14))) (l14 : K.lookup f14 = some ⟨oc14, od14, .func (PySem.W.fnOf "law" "law" (defArgs s_law) (defBody s_law) (defScope s_law) .none kV14 dc14 pm14 an14 cd14 ct14), sl14⟩) (c14 : PySem.W.codeIn K cd14 "law" = true) (k14 : PySem.W.keepIn K (.ref f14) = true)
    (z_len : PySem.W.nsIn K mainGlobals "len" = some none) (z_int : PySem.W.nsIn K mainGlobals "int" = some none) (z_abs : PySem.W.nsIn K mainGlobals "abs" = some none) (z_range : PySem.W.nsIn K mainGlobals "range" = some none) (z_min : PySem.W.nsIn K mainGlobals "min" = some none) (z_str : PySem.W.nsIn K mainGlobals "str" = some none) (z_isinstance : PySem.W.nsIn K mainGlobals "isinstance" = some none) (z_bool : PySem.W.nsIn K mainGlobals "bool" = some none) (z_dict : PySem.W.nsIn K mainGlobals "dict" = some none) (z_sum : PySem.W.nsIn K mainGlobals "sum" = some none) (z_list : PySem.W.nsIn K mainGlobals "list" = some none) (z_tuple : PySem.W.nsIn K mainGlobals "tuple" = some none) (z_repr : PySem.W.nsIn K mainGlobals "repr" = some none) (z_sorted : PySem.W.nsIn K mainGlobals "sorted" = some none) (z_enumerate : PySem.W.nsIn K mainGlobals "enumerate" = some none) (z_zip : PySem.W.nsIn K mainGlobals "zip" = some none) (z_all : PySem.W.nsIn K mainGlobals "all" = some none) (z_max : PySem.W.nsIn K mainGlobals "max" = some none) (z_set : PySem.W.nsIn K mainGlobals "set" = some none) (z_ValueError : PySem.W.nsIn K mainGlobals "ValueError" = some none) :
    ∀ base : Heap, K.In base → base.Ns mainGlobals mg → TopOk l.prog w K mg base fa (spLaw K) := by
  have e := hfa.symm.trans (PySem.W.mg_of X G a14)
  cases e
  have F1 := fun_mk (st := s_law_cell) l1 c1 k1
  have F2 := fun_mk (st := s_law_draws) l2 c2 k2
  have F3 := fun_mk (st := s_move_at) l3 c3 k3
  have F4 := fun_mk (st := s_can_take) l4 c4 k4
  have F5 := fun_mk (st := s_after) l5 c5 k5
  have F6 := fun_mk (st := s_possible_moves) l6 c6 k6
  have F7 := fun_mk (st := s_copied) l7 c7 k7
  have F8 := fun_mk (st := s_situations) l8 c8 k8
  have F9 := fun_mk (st := s_follow) l9 c9 k9
  have F10 := fun_mk (st := s_scheduled) l10 c10 k10
  have F11 := fun_mk (st := s_law_pairs) l11 c11 k11
  have F12 := fun_mk (st := s_law_machine) l12 c12 k12
  have F13 := fun_mk (st := s_law_covers) l13 c13 k13
  have F14 := fun_mk (st := s_law) l14 c14 k14
  have B : Bt mg := { len := PySem.W.mg_none_of X G z_len, int := PySem.W.mg_none_of X G z_int, abs := PySem.W.mg_none_of X G z_abs, range := PySem.W.mg_none_of X G z_range, min := PySem.W.mg_none_of X G z_min, str := PySem.W.mg_none_of X G z_str, isinstance := PySem.W.mg_none_of X G z_isinstance, bool := PySem.W.mg_none_of X G z_bool, dict := PySem.W.mg_none_of X G z_dict, sum := PySem.W.mg_none_of X G z_sum, list := PySem.W.mg_none_of X G z_list, tuple := PySem.W.mg_none_of X G z_tuple, repr := PySem.W.mg_none_of X G z_repr, sorted := PySem.W.mg_none_of X G z_sorted, enumerate := PySem.W.mg_none_of X G z_enumerate, zip := PySem.W.mg_none_of X G z_zip, all := PySem.W.mg_none_of X G z_all, max := PySem.W.mg_none_of X G z_max, set := PySem.W.mg_none_of X G z_set, ValueError := PySem.W.mg_none_of X G z_ValueError }
  intro base _ _
  have D_law_cell := fd_law_cell (P := l.prog) (w := w) (base := base) F1 (PySem.W.mg_of X G a1) B
  have D_law_draws := fd_law_draws (P := l.prog) (w := w) (base := base) F2 (PySem.W.mg_of X G a2) B
  have D_move_at := fd_move_at (P := l.prog) (w := w) (base := base) F3 (PySem.W.mg_of X G a3) B
  have D_can_take := fd_can_take (P := l.prog) (w := w) (base := base) F4 (PySem.W.mg_of X G a4) B
  have D_after := fd_after (P := l.prog) (w := w) (base := base) F5 (PySem.W.mg_of X G a5) B D_move_at D_can_take
  have D_possible_moves := fd_possible_moves (P := l.prog) (w := w) (base := base) F6 (PySem.W.mg_of X G a6) B D_can_take
  have D_copied := fd_copied (P := l.prog) (w := w) (base := base) F7 (PySem.W.mg_of X G a7) B
  have D_situations := fdG_situations (P := l.prog) (w := w) (base := base) F8 (PySem.W.mg_of X G a8) D_copied D_after
  have D_follow := fd_follow (P := l.prog) (w := w) (base := base) F9 (PySem.W.mg_of X G a9) B D_situations
  have D_scheduled := fd_scheduled (P := l.prog) (w := w) (base := base) F10 (PySem.W.mg_of X G a10) B D_possible_moves D_after
  have D_law_pairs := fd_law_pairs (P := l.prog) (w := w) (base := base) F11 (PySem.W.mg_of X G a11) B D_law_draws
  have D_law_machine := fd_law_machine (P := l.prog) (w := w) (base := base) F12 (PySem.W.mg_of X G a12) B D_law_draws D_law_pairs
  have D_law_covers := fd_law_covers (P := l.prog) (w := w) (base := base) F13 (PySem.W.mg_of X G a13) B
  exact fd_law F14 (PySem.W.mg_of X G a14) (fun s v => .of_eq rfl) B D_law_cell D_law_draws D_law_machine D_law_covers D_possible_moves D_after D_scheduled D_follow
end My
open PySem PySem.W PyProof.Rows
set_option maxRecDepth 100000 in
set_option maxHeartbeats 0 in
theorem PySem.Challenge.cw_legion_k21_whole_more_threads_can_do_mor_holds : PySem.Challenge.rw_legion_k21_whole_more_threads_can_do_mor.Holds := by
  w_on; o_law; k_head; (case hw => w_witness2)
  k_fill
  refine My.walk_top (l := PySem.Challenge.rw_legion_k21_whole_more_threads_can_do_mor) (n := 63) (sp := fun w => My.spLaw _) rfl (by decide) rfl (fun w h Y => PySem.W.kIn_of Y) ?F (fun _ _ a ns hl hS => ⟨a, ns, rfl, hS, hl, fun _ => rfl⟩)
  case F =>
    intro w mg fa h KX G hmg
    refine' My.all_mk KX G hmg ?a1 ?l1 ?c1 ?k1 ?a2 ?l2 ?c2 ?k2 ?a3 ?l3 ?c3 ?k3 ?a4 ?l4 ?c4 ?k4 ?a5 ?l5 ?c5 ?k5 ?a6 ?l6 ?c6 ?k6 ?a7 ?l7 ?c7 ?k7 ?a8 ?l8 ?c8 ?k8 ?a9 ?l9 ?c9 ?k9 ?a10 ?l10 ?c10 ?k10 ?a11 ?l11 ?c11 ?k11 ?a12 ?l12 ?c12 ?k12 ?a13 ?l13 ?c13 ?k13 ?a14 ?l14 ?c14 ?k14  ?z_len ?z_int ?z_abs ?z_range ?z_min ?z_str ?z_isinstance ?z_bool ?z_dict ?z_sum ?z_list ?z_tuple ?z_repr ?z_sorted ?z_enumerate ?z_zip ?z_all ?z_max ?z_set ?z_ValueError
    (case a1 => k_is); (case l1 => k_is); (case c1 => k_is); (case k1 => k_is)
    (case a2 => k_is); (case l2 => k_is); (case c2 => k_is); (case k2 => k_is)
    (case a3 => k_is); (case l3 => k_is); (case c3 => k_is); (case k3 => k_is)
    (case a4 => k_is); (case l4 => k_is); (case c4 => k_is); (case k4 => k_is)
    (case a5 => k_is); (case l5 => k_is); (case c5 => k_is); (case k5 => k_is)
    (case a6 => k_is); (case l6 => k_is); (case c6 => k_is); (case k6 => k_is)
    (case a7 => k_is); (case l7 => k_is); (case c7 => k_is); (case k7 => k_is)
    (case a8 => k_is); (case l8 => k_is); (case c8 => k_is); (case k8 => k_is)
    (case a9 => k_is); (case l9 => k_is); (case c9 => k_is); (case k9 => k_is)
    (case a10 => k_is); (case l10 => k_is); (case c10 => k_is); (case k10 => k_is)
    (case a11 => k_is); (case l11 => k_is); (case c11 => k_is); (case k11 => k_is)
    (case a12 => k_is); (case l12 => k_is); (case c12 => k_is); (case k12 => k_is)
    (case a13 => k_is); (case l13 => k_is); (case c13 => k_is); (case k13 => k_is)
    (case a14 => k_is); (case l14 => k_is); (case c14 => k_is); (case k14 => k_is)
    (case z_len => k_is); (case z_int => k_is); (case z_abs => k_is); (case z_range => k_is); (case z_min => k_is); (case z_str => k_is); (case z_isinstance => k_is); (case z_bool => k_is); (case z_dict => k_is); (case z_sum => k_is); (case z_list => k_is); (case z_tuple => k_is); (case z_repr => k_is); (case z_sorted => k_is); (case z_enumerate => k_is); (case z_zip => k_is); (case z_all => k_is); (case z_max => k_is); (case z_set => k_is); (case z_ValueError => k_is)
